import PyProof.Rows.All
import Wide.All
import OpenK.AllK
import Wide.FinOn
import HandS.ForMost
import HandS.Evl
import HandS.MakeKw
import HandS.MakeKwOnly
import HandS.IsInst
import PyProof.ReprRoads
import HandS.Zip
import PyProof.Rows.SetFrom
import PyProof.ReprLen
import HandS.OwnEq
import PyProof.NeKinds
import HandS.Style
import KE.KSortedM
import PySem.Challenge.RW_ringless_k04_nets_alike
set_option Elab.async false
set_option linter.all false
set_option maxRecDepth 100000
set_option maxHeartbeats 2000000
/-! My own additions to the hand layer: defs that know that no repr is under way (so that they may call repr), repr of data, a method called by keywords alone. -/
namespace MyG
open PySem PySem.Spec PyProof.Rows L2

/-- a promise that is kept where no guarded call is under way -/
structure FnOkG (P : Program) (w : World) (K : PySem.W.Frag) (mg : Str → Option Value) (base : Heap) (CX : CXT) (k : Nat) (f : Addr) (fd : FuncData) (ps : List Str) (sp : Sp) : Prop where
  lenG : ∀ vs H Q E, sp vs H Q E → vs.length = ps.length
  runG : ∀ (A : Around) (fr : List Env) (s : Shared) (H : Hp) (as : Args) (us : List Value) (vs : List V) (Q : VK) (E : XK), A.guards = some [] → Room k A → Env0 P w K mg base A fr s H →
    BindsTo s fd as (ps.zip us) → Vals vs us → sp vs H Q E → codeAny (model P w) A (.call (.ref f) as) (CR CX fr P w H s Q E) s

section
variable {P : Program} {w : World} {K : PySem.W.Frag} {mg : Str → Option Value} {base : Heap} {CX : CXT} {k : Nat} {f : Addr} {fd : FuncData} {ps N : List Str} {sp : Sp} {x q : Str} {st : Stmt}
theorem FnOkG.of (F : FnOk P w K mg base CX k f fd ps sp) : FnOkG P w K mg base CX k f fd ps sp :=
  ⟨F.len, fun A fr s H as us vs Q E _ => F.run A fr s H as us vs Q E⟩

/-- a def's body, where no guarded call is under way: for defs from which nothing is raised -/
theorem okG (F : Fun K x q st f fd) (S : FnScope N ps (defScope st)) (hlen : ∀ vs H Q E, sp vs H Q E → vs.length = ps.length)
    (hbody : ∀ (cdv : Value) (A : Around) (fr : List Env) (s : Shared) (H : Hp) (vs : List V) (Q : VK) (E : XK), (A.deeper (envOfC q (defScope st) s.heap.objs.size f cdv)).guards = some [] →
      Room k (A.deeper (envOfC q (defScope st) s.heap.objs.size f cdv)) → sp vs H Q E →
      ∃ t, PSs (cxOf CX0 P w K mg base N q (defScope st) f cdv A fr s H E).nox (defBody st) t ∧ t { nx := fun _ H' => Q .non H', rt := Q } (start N vs) H) :
    FnOkG P w K mg base CX0 (k + 1) f fd ps sp := by
  obtain ⟨oc, od, kV, doc, pm, an, cdv, ct, osl, hfd, hlook, hcode⟩ := F.ex
  subst hfd
  constructor
  · exact hlen
  intro A fr s H as us vs Q E hgd room e0 hbind rel hs
  have kin : K.In s.heap := e0.mod.kin.keeps (fun b o h => (e0.bs b o h).1)
  have nol : s.heap.NoLimit := e0.mod.nolimit.keeps (fun b o h => (e0.bs b o h).1)
  have params : ∀ y ∈ ps.zip us, (defScope st).names.lookup y.1 = some .local ∨ ((defScope st).names.lookup y.1 = some .cell ∧ ((cellsFrom (s.heap.objs.size + 1) (defScope st).names []).lookup y.1).isSome = true) := by
    intro y hy
    have hy1 : y.1 ∈ ps := (List.of_mem_zip (show (y.1, y.2) ∈ ps.zip us from hy)).1
    cases S.par y.1 hy1 with
    | inl h => exact Or.inl h
    | inr h => exact Or.inr ⟨h, PySem.W.cellsFrom_some _ _ _ (Or.inl h)⟩
  refine codeAny_call_function room.depth (kin _ _ hlook) rfl S.co S.gen rfl (PySem.W.codeRec_of kin hcode) (hbind _ _ _ _ ?_)
  refine wpAny_newFunctionEnv_cells S.kind params (fun env henv s1 hin => ?_)
  subst henv
  obtain ⟨t, hterm, hread⟩ := hbody cdv A fr s H vs Q E hgd (room.deeper _) hs
  have inv := inv_start (CX := CX0) (E := E) S room.hd e0 (hlen _ _ _ _ hs) rel hin
  refine ⟨nol.keeps hin.toInCall.keep, codeAny_func (wpAny_mono (hterm.nox.run [] s1 (start N vs) H _ inv hread) ?_ (fun _ _ h => h))⟩
  intro fl s' hsp
  match fl, hsp with
  | .ret u, hsp =>
    obtain ⟨v, σ', H', J, rv, hq⟩ := hsp
    exact ⟨v, H', J.os, J.bare, J.base, J.hok, rv, hq⟩
  | .next, hsp =>
    obtain ⟨σ', H', J, hq⟩ := hsp
    exact ⟨V.non, H', J.os, J.bare, J.base, J.hok, rfl, hq⟩
  | .brk, hsp => exact hsp.choose_spec.choose_spec.2.elim
  | .cont, hsp => exact hsp.choose_spec.choose_spec.2.elim
end

section
variable {X : Cx} {CX : CXT} {k : Nat} {f C : Addr} {fd : FuncData} {ps ks : List Str} {sp : Sp} {dvs : List V} {ds : List Value} {E : XK} {x m : Str} {p pos apos : Pos} {e o : Expr} {es : List Expr} {ta : TE} {t tk : TA} {kws : List Keyword}
  {g : List Value → List Value → List Value} {gV : List V → List V → List V}
theorem runG_fn {pins : List (Addr × Obj)} {σ : L2.St} {H : Hp} {s : Shared} {Q : VK} {us : List Value} {vs : List V} (F : FnOkG X.prog X.w X.K X.mg X.base CX k f fd ps sp) (hgd : X.A.guards = some []) (room : Room k X.A) (hb : Binds X.K fd ps ds)
    (hd : Vals dvs ds) (hx : Passes CX X E) (I : Inv X pins σ H s) (r : Vals vs us) (h : sp (vs ++ dvs) H Q E) : wpAny (model X.prog X.w) X.A (call (.ref f) us) (EP X pins σ Q) X.xe s := by
  have rel : Vals (vs ++ dvs) (us ++ ds) := r.append hd
  have hlen : (us ++ ds).length = ps.length := rel.length.symm.trans (F.lenG _ _ _ _ h)
  refine wpAny_call (codeAny_mono (F.runG X.A X.stack s H ⟨us, []⟩ (us ++ ds) (vs ++ dvs) Q E hgd room I.env0 (hb s us I.kIn hlen) rel h) (fun r s' hq => ?_))
  match r, hq with
  | .error e, hq => exact hx pins σ H s e s' I hq
  | .ok (.ret u), hq => exact I.after hq
/-- f(e, ..) -/
theorem pe_callG (F : FnOkG X.prog X.w X.K X.mg X.base CX k f fd ps sp) (hgd : X.A.guards = some []) (room : Room k X.A) (hg : Gl X x) (hm : X.mg x = some (.ref f)) (hk : PySem.W.keepIn X.K (.ref f) = true) (hb : Binds X.K fd ps ds) (hd : Vals dvs ds)
    (hx : Passes CX X E) (ha : PA X (e :: es) t) (hdb : (x == ("__debug__" : Str)) = false := by decide) (he : starEach (e :: es) X.env = (false, eval e X.env) :: starEach es X.env := by rfl)
    (hpl : (backTo pos (starEach es X.env)).any (·.1) = false := by rfl) : PE X (.Call (.Name x p) (e :: es) [] pos) (tCall sp dvs E t) := by
  constructor
  intro pins s σ H Q I h
  refine wpAny_Call_Name_kw (ld_glob I hg hm (PySem.W.callWith_K (h₀ := X.base) I.ok.mod.kin hk (thn (ha.run pos pins s σ H _ I h) ?_) he hpl) hdb)
  rintro us s1 ⟨vs, H1, I1, r, hq⟩
  exact ⟨I1.kIn, runG_fn F hgd room hb hd hx I1 r hq⟩

/-- o.m(k = v, ..): keywords alone -/
def tMethK (C : Addr) (m : Str) (n : Nat) (sp : Sp) (gV : List V → List V → List V) (E : XK) (ta : TE) (tk : TA) : TE := fun σ H Q => ta σ H fun x H1 => ∃ a dx fs, x = .ref a ∧ H1 a = some (.ins C dx fs) ∧ fs.lookup m = none ∧
  tk σ H1 fun zs H2 => zs.length = n ∧ sp (gV [x] zs) H2 Q E
theorem pe_methK0 {pl : Sem Bool} (he : PE X o ta) (c : Cls X.K C) (hm : Meth X.K C m f) (F : FnOk X.prog X.w X.K X.mg X.base CX k f fd ps sp) (room : Room k X.A) (hb : KBn X.K fd ps 1 ks g gV) (hx : Passes CX X E) (hkw : PK X kws tk)
    (hall : (backToKw pos (keywordEach kws X.env)).all (·.1.isSome) = true := by rfl) (hks : (backToKw pos (keywordEach kws X.env)).filterMap (·.1) = ks := by rfl)
    (hpl : ((backTo pos (starEach [] X.env)).any (·.1) || (backToKw pos (keywordEach kws X.env)).any (·.1.isNone)) = false := by rfl)
    (ht : eval (.Call (.Attribute o m apos) [] kws pos) X.env = (do
      let ov ← eval o X.env
      standAt apos.atName
      let (f, first) ← holding [ov] (getMethod ov m pl)
      callWith pos f first (backTo pos (starEach [] X.env)) (backToKw pos (keywordEach kws X.env))) := by rfl) :
    PE X (.Call (.Attribute o m apos) [] kws pos) (tMethK C m ks.length sp gV E ta tk) := by
  constructor
  intro pins s σ H Q I h
  refine PySem.W.methodCall_KW (pl := pl) (thn (he.run pins s σ H _ I h) ?_) ht
  rintro u s1 ⟨x, H1, I1, rx, a, dx, fs, ex, ea, l, hq⟩
  subst ex
  obtain rfl : u = Value.ref a := rx
  refine getmeth_ok I1 ea c hm l (PySem.W.callWith_KW0 (h₀ := X.base) I1.ok.mod.kin hm.kp hall (thn (hkw.run pos pins s1 σ H1 _ I1 hq) ?_) hpl)
  rintro ws s2 ⟨zs, H2, I2, rz, l2, hs⟩
  refine ⟨I2.kIn, ?_⟩
  rw [hks]
  exact run_fnN (us := [.ref a]) (vs := [.ref a]) F room hb hx I2 (.cons rfl .nil) rz rfl l2 hs
end

/-- how keywords bind, for a def without defaults -/
theorem kbn_of {K : PySem.W.Frag} {x q : Str} {st : Stmt} {f : Addr} {fd : FuncData} {ps ks : List Str} {n : Nat} {g : List Value → List Value → List Value} {gV : List V → List V → List V} (F : Fun K x q st f fd)
    (h : ∀ (kV doc pm : Value) (an : Option Addr) (cdv ct : Value) (us ws : List Value), us.length = n → ws.length = ks.length → bindArgs (PySem.W.fnOf x q (defArgs st) (defBody st) (defScope st) .none kV doc pm an cdv ct) ⟨us, ks.zip ws⟩ = pure (ps.zip (g us ws)))
    (rel : ∀ {vs : List V} {us : List Value} {zs : List V} {ws : List Value}, Vals vs us → Vals zs ws → Vals (gV vs zs) (g us ws)) : KBn K fd ps n ks g gV := by
  obtain ⟨oc, od, kV, doc, pm, an, cdv, ct, osl, hfd, hlook, hcode⟩ := F.ex
  subst hfd
  exact ⟨fun s us ws _ l1 l2 => .of_eq (h kV doc pm an cdv ct us ws l1 l2), rel⟩

/-! ### repr of data -/
section
variable {X : Cx}
def rReprD (K : PySem.W.Frag) : List V → Hp → VK → Prop := fun xs H Q => ∃ x d, xs = [x] ∧ Dp K H x d ∧ d.showable = true ∧ d.hasDict = false ∧ d.depth ≤ 40 ∧ d.shown.length ≤ sizeLine ∧ Q (.str d.shown) H
theorem call_reprD {k : Nat} (hgd : X.A.guards = some []) (room : Room k X.A) : CallR X (.builtin "repr") (rReprD X.K) := by
  intro pins s σ H xs us Q I r h
  obtain ⟨x, d, rfl, hd, hs, hnd, hdep, hsz, hq⟩ := h
  obtain ⟨u, rfl, rx⟩ := vals1 r
  have un := room.units
  have fin : ∀ h' v tk, (∀ b o, s.heap.get? b = some o → h'.get? b = some o) → EP X pins σ Q (.str d.shown v) { s with heap := h', toks := tk } := fun h' v tk kp => ⟨.str d.shown, H, I.kept kp, ⟨_, rfl⟩, hq⟩
  obtain ⟨as, rd⟩ := Dp.reads I d x u hd rx
  cases rd with
  | none => exact PySem.P.repr_of_none (fin s.heap _ _ fun _ _ e => e)
  | bool b => cases b <;> exact PySem.P.repr_of_bool (fin s.heap _ _ fun _ _ e => e)
  | int i t =>
    refine PySem.P.repr_of_int (by simpa [PyData.showable] using hs) (fin s.heap _ _ fun _ _ e => e)
  | str y t => exact PySem.P.repr_of_str (fin s.heap _ _ fun _ _ e => e) hsz
  | list h1 h2 h3 h4 => exact repr_of_reads' (.list h1 h2 h3 h4) hs (fun z => by rw [hnd] at z; cases z) hgd (by omega) (fun _ _ e => e) fin hsz
  | tuple h1 h2 h3 h4 => exact repr_of_reads' (.tuple h1 h2 h3 h4) hs (fun z => by rw [hnd] at z; cases z) hgd (by omega) (fun _ _ e => e) fin hsz
  | dict h1 h2 h3 h4 h5 => simp [PyData.hasDict] at hnd
end
end MyG

/-! ### the law's own call, and the end of a row -/
namespace MyG
open PySem PySem.Spec PyProof.Rows L2
section
variable {P : Program} {w : World} {K : PySem.W.Frag} {mg mb : Str → Option Value} {CX : CXT} {k : Nat} {fa a : Addr} {fd : FuncData} {x : Str} {sp : Sp} {s₁ : Shared} {vs : List Value} {ns : List Int}
/-- from one abstract heap that knows at most the script -/
theorem lawG_at (H : Hp) (KX : K.In s₁.heap) (hns : s₁.heap.Ns mainGlobals mg) (hb : s₁.heap.Ns builtinsNs mb) (hbb : ∀ x : Str, x ≠ "__name__" → mb x = bootBuiltins x) (hlim : s₁.heap.NoLimit) (hgen : s₁.gens = #[])
    (ha : s₁.heap.get? a = some { cls := .type "list", data := .seq vs.toArray }) (room : Room k callerA)
    (F : ∀ base : Heap, K.In base → base.Ns mainGlobals mg → FnOkG P w K mg base CX k fa fd [x] sp) (hbind : ∀ (s : Shared) (u : Value), BindsTo s fd ⟨[u], []⟩ [(x, u)])
    (hsp : sp [.ref a] H (fun v _ => v = .bl true) fun _ _ _ => False) (hCX : ∀ e s', CX [] H s₁ (fun _ _ _ => False) e s' → False)
    (only : Only H) (hok : HOk P w H s₁.heap) (hA : ∀ b, H b ≠ none → b = a) (hK : H a ≠ none → K.lookup a = none) :
    codeAny (model P w) callerA (.call (.ref fa) ⟨[.ref a], []⟩) (fun r s' => r = .ok (.ret (.bool true)) ∧ OldK s₁.heap s'.heap ∧ s'.os = s₁.os ∧ AllBare s'.gens) s₁ := by
  have free : ∀ b : Addr, b ≠ a → H b = none := fun b hb => by
    cases e : H b with
    | none => rfl
    | some u => exact absurd (hA b (by rw [e]; exact fun z => nomatch z)) hb
  have hid : ∀ {b : Addr} {o : Obj}, s₁.heap.get? b = some o → H b = none → (hidT s₁.heap H).get? b = some o := fun h1 h2 => hidT_get h1 h2
  have dictFree : ∀ {b : Addr} {o : Obj} {es : Array DictEntry} {ep : Nat}, s₁.heap.get? b = some o → o.data = .dict es ep → H b = none := by
    intro b o es ep h1 h2
    by_cases hb : b = a
    · rw [hb, ha] at h1
      obtain rfl := Option.some.inj h1
      exact absurd h2 (fun z => nomatch z)
    · exact free b hb
  have nsH : ∀ {b : Addr} {m : Str → Option Value}, s₁.heap.Ns b m → (hidT s₁.heap H).Ns b m := by
    rintro b m ⟨o, es, ep, h1, h2, h3⟩
    exact ⟨o, es, ep, hid h1 (dictFree h1 h2), h2, h3⟩
  have kin : K.In (hidT s₁.heap H) := by
    intro b o h1
    refine hid (KX b o h1) ?_
    by_cases hb : b = a
    · cases e : H a with
      | none => rw [hb]; exact e
      | some u =>
        have z := hK (by rw [e]; exact fun z => nomatch z)
        rw [hb, z] at h1
        cases h1
    · exact free b hb
  have md : Mod K mg (hidT s₁.heap H) := by
    obtain ⟨mc, l1, l2⟩ := hlim
    exact ⟨kin, nsH hns, ⟨mb, nsH hb, hbb⟩, ⟨mc, nsH l1, l2⟩⟩
  have env : Env0 P w K mg (hidT s₁.heap H) callerA [] s₁ H := { frames := rfl, mod := md, bs := fun b o h1 => of_hidT h1, bsz := Nat.le_of_eq (hidT_size _ _), funs := trivial, frf := fun b hb => (List.not_mem_nil hb).elim, hok := hok, bare := .of_eq hgen }
  refine codeAny_mono ((F _ kin (nsH hns)).runG callerA [] s₁ H ⟨[.ref a], []⟩ [.ref a] [.ref a] _ _ rfl room env (hbind s₁ (.ref a)) (.cons rfl .nil) hsp) ?_
  intro r s' hr
  match r, hr with
  | .error e, hr => exact (hCX e s' hr).elim
  | .ok (.ret u), hr =>
    obtain ⟨v, H', hos, hbare, un, hok', rv, hv⟩ := hr
    obtain rfl : v = V.bl true := hv
    obtain rfl : u = Value.bool true := rv
    refine ⟨rfl, OldK.of_keep ?_, hos, hbare⟩
    intro b o h1
    rcases only b with z | ⟨ob, xs, z⟩
    · exact un.keep b o h1 z (fun q => (List.not_mem_nil q).elim) (fun q => (List.not_mem_nil q).elim)
    · have e1 := (hok b _ z).1
      have e2 := (hok' b _ (un.frzs b ob _ z)).1
      rw [h1] at e1
      rw [Option.some.inj e1]
      exact e2
theorem law_callG (KX : K.In s₁.heap) (hns : s₁.heap.Ns mainGlobals mg) (hb : s₁.heap.Ns builtinsNs mb) (hbb : ∀ x : Str, x ≠ "__name__" → mb x = bootBuiltins x) (hlim : s₁.heap.NoLimit) (hgen : s₁.gens = #[])
    (ha : s₁.heap.get? a = some { cls := .type "list", data := .seq vs.toArray }) (hi : IntsAre vs ns) (hl : ns.length ≤ sizeLine) (room : Room k callerA)
    (F : ∀ base : Heap, K.In base → base.Ns mainGlobals mg → FnOkG P w K mg base CX k fa fd [x] sp) (hbind : ∀ (s : Shared) (u : Value), BindsTo s fd ⟨[u], []⟩ [(x, u)])
    (hsp : ∀ H : Hp, Only H → SqL K H a (ns.map V.int) → sp [.ref a] H (fun v _ => v = .bl true) fun _ _ _ => False) (hCX : ∀ H e s', CX [] H s₁ (fun _ _ _ => False) e s' → False) :
    codeAny (model P w) callerA (.call (.ref fa) ⟨[.ref a], []⟩) (fun r s' => r = .ok (.ret (.bool true)) ∧ OldK s₁.heap s'.heap ∧ s'.os = s₁.os ∧ AllBare s'.gens) s₁ := by
  have rv := vals_ints hi
  have lenV := hi.length
  cases hk : K.lookup a with
  | some o =>
    have e1 := KX a o hk
    rw [ha] at e1
    obtain rfl := Option.some.inj e1
    have only : Only (fun _ => none) := fun b => .inl rfl
    refine lawG_at (fun _ => none) KX hns hb hbb hlim hgen ha room F hbind (hsp _ only ?_) (hCX _) only (fun b u z => nomatch z) (fun b z => absurd rfl z) (fun z => absurd rfl z)
    exact .inr ⟨_, vs.toArray, _, hk, rfl, rfl, rfl, by rw [List.size_toArray, lenV]; exact hl, by simpa using rv⟩
  | none =>
    have at_a : ∀ {o : HO}, (fun b => if b = a then some o else none : Hp) a = some o := if_pos rfl
    have off_a : ∀ {o : HO} {b : Addr}, b ≠ a → (fun b => if b = a then some o else none : Hp) b = none := fun h => if_neg h
    have only : Only (fun b => if b = a then some (.frz { cls := .type "list", data := .seq vs.toArray } (.lst (ns.map V.int))) else none) := fun b => by
      by_cases hb : b = a
      · exact .inr ⟨_, _, by rw [hb]; exact at_a⟩
      · exact .inl (off_a hb)
    refine lawG_at _ KX hns hb hbb hlim hgen ha room F hbind (hsp _ only (.inl (.inr ⟨_, at_a⟩))) (hCX _) only ?_ ?_ (fun _ => hk)
    · intro b u z
      by_cases hb : b = a
      · subst hb
        obtain rfl := Option.some.inj (at_a.symm.trans z)
        exact ⟨ha, by rw [List.length_map]; exact hl, vs, _, rv, ha⟩
      · exact absurd ((off_a hb).symm.trans z) (fun q => nomatch q)
    · intro b z
      by_cases hb : b = a
      · exact hb
      · exact absurd (off_a hb) z
end
theorem walk_ofG {l : PySem.W.OpenLaw} {n k : Nat} {q : Program} {loose : List Str} {XP : (Str → Option Value) → Heap → Prop} {YP : World → Heap → Prop} {d : DefRec} {K : Params → PySem.W.Frag} {CX : World → CXT} {sp : World → Sp} {x : Str}
    (hn : l.most = some n) (hn2 : n ≤ sizeLine) (hdf : d.params.defaults = []) (room : Room k callerA) (hY : ∀ (w : World) (h : Heap), YP w h → (K w.params).In h)
    (F : ∀ (w : World) (mg : Str → Option Value) (fa : Addr) (h : Heap), (K w.params).In h → h.Ns mainGlobals mg → mg d.name = some (.ref fa) →
      ∃ fd : FuncData, (∀ (s : Shared) (u : Value), BindsTo s fd ⟨[u], []⟩ [(x, u)]) ∧ ∀ base : Heap, (K w.params).In base → base.Ns mainGlobals mg → FnOkG l.prog w (K w.params) mg base (CX w) k fa fd [x] (sp w))
    (hsp : ∀ (w : World) (H : Hp) (a : Addr) (ns : List Int), ns.length ≤ n → Only H → SqL (K w.params) H a (ns.map V.int) → sp w [.ref a] H (fun v _ => v = .bl true) fun _ _ _ => False)
    (hCX : ∀ (w : World) (H : Hp) (s : Shared) (e : Value) (s' : Shared), CX w [] H s (fun _ _ _ => False) e s' → False) : PySem.W.WalkO q loose XP YP l.row.toRowW d [] (fun f vs => PySem.call f vs) := by
  refine Att.attach_call hn hdf ?_
  intro w s₀ s₁ mg mb fa o pm cd doc a vs ns G Y ho hd hcd hmg hobj hints hlen hgen
  obtain ⟨fd, hbind, hF⟩ := F w mg fa _ (hY w _ Y) G.T.g hmg
  exact law_callG (hY w _ Y) G.T.g G.T.b G.T.builtins G.T.nolimit hgen hobj hints (Nat.le_trans hlen hn2) room hF hbind (hsp w · a ns hlen · ·) (fun H e s' => hCX w H s₁ e s')
end MyG

set_option maxHeartbeats 2000000
/-! len(set(xs)) of whole numbers, alike or not; what stands for a thing of any kind. -/
namespace MyG
open PySem PySem.Spec PyProof.Rows L2 Evl
theorem met_len {ns : List Int} : ∀ i, i ≤ ns.length → (firstMet (fun i => ns.getD i 0) i).length = i → (ns.take i).Nodup
  | 0, _, _ => by simp
  | i + 1, hi, h => by
    have hlt : i < ns.length := hi
    rw [firstMet_succ] at h
    unfold step_dedup at h
    have le := firstMet_length_le (fun i => ns.getD i 0) i
    by_cases c : (firstMet (fun i => ns.getD i 0) i).any (· == ns.getD i 0) = true
    · rw [if_pos c] at h
      omega
    · rw [if_neg c, List.length_append, List.length_singleton] at h
      have ih := met_len i (Nat.le_of_lt hlt) (by omega)
      rw [firstMet_any] at c
      rw [List.take_add_one, List.getElem?_eq_getElem hlt]
      show (ns.take i ++ [ns[i]]).Nodup
      rw [List.nodup_append]
      refine ⟨ih, by simp, fun a ha b hb e => c ?_⟩
      obtain rfl := List.mem_singleton.mp hb
      subst e
      rw [List.any_eq_true]
      obtain ⟨j, hj, ej⟩ := List.getElem_of_mem ha
      rw [List.length_take] at hj
      refine ⟨ns.getD j 0, List.mem_map.mpr ⟨j, List.mem_range.mpr (by omega), rfl⟩, ?_⟩
      rw [List.getElem_take] at ej
      rw [List.getD_eq_getElem?_getD, List.getD_eq_getElem?_getD, List.getElem?_eq_getElem hlt, List.getElem?_eq_getElem (by omega : j < ns.length)]
      show (ns[j] == ns[i]) = true
      rw [ej]
      exact beq_self_eq_true _
theorem met_iff (ns : List Int) : (firstMet (fun i => ns.getD i 0) ns.length).length = ns.length ↔ ns.Nodup := by
  constructor
  · intro h
    have z := met_len ns.length (Nat.le_refl _) h
    rwa [List.take_length] at z
  · intro h
    rw [RZ.firstMet_nodup h ns.length (Nat.le_refl _), List.take_length]
def tLenSetG (K : PySem.W.Frag) (ta : TE) : TE := fun σ H Q => ta σ H fun x H1 => ∃ (l : Addr) (ns : List Int), x = .ref l ∧ SqL K H1 l (ns.map V.int) ∧ ns.length ≤ 4000 ∧ ∀ n : Nat, (n = ns.length ↔ ns.Nodup) → Q (.int n) H1
theorem pe_lenSetG {X : Cx} {a : Expr} {ta : TE} {p p2 q pos : Pos} (hg : Gl X "len") (hm : X.mg "len" = none) (hg2 : Gl X "set") (hm2 : X.mg "set" = none) (ha : PE X a ta) (hc : X.calm = true := by rfl)
    (na : starEach [a] X.env = (false, eval a X.env) :: starEach [] X.env := by rfl) : PE X (.Call (.Name "len" p) [.Call (.Name "set" p2) [a] [] q] [] pos) (tLenSetG X.K ta) := by
  constructor
  intro pins s σ H Q I h
  refine Call_ (ld_blt I hg hm boot_len (callWith_builtin1 (args_cons ?_ rfl) rfl rfl))
  refine Call_ (ld_blt I hg2 hm2 boot_set (callWith_type1 (args_cons (thn (ha.run pins s σ H _ I h) ?_) na) na rfl))
  rintro v s1 ⟨x, H1, I1, r1, l, ns, rfl, hq, hl, q1⟩
  refine args_nil ?_
  cases r1
  obtain ⟨its, r, pl, hz⟩ := I1.list hq
  have size : its.toArray.size = ns.length := by rw [List.size_toArray, ← r.length, List.length_map]
  refine call_set_list (I1.ok.hd hc) pl.isList (ns := ns) (by simpa using r.ints) (by rw [size]; unfold scanBound; omega) (fun h' tk hS hk => args_nil ?_)
  rw [size] at hS
  have le := firstMet_length_le (fun i => ns.getD i 0) ns.length
  obtain ⟨o, es, ep, t, ho, hex, hd, _, _, _, hf, hn⟩ := hS
  have I2 : Inv X pins σ H1 { s1 with heap := h', toks := tk } := I1.kept fun b o e => hk b o (Heap.lt_size e) e
  exact call_len_set ho hex hd hf (by rw [hn]; omega) ⟨.int ((firstMet (fun i => ns.getD i 0) ns.length).length : Nat), H1, I2.tok _, ⟨_, by rw [hn]⟩, q1 _ (met_iff ns)⟩
/-! ### a thing of any kind, and its kind -/
inductive AnyT (H : Hp) : V → String → Prop
  | non : AnyT H .non "NoneType"
  | bl (b : Bool) : AnyT H (.bl b) "bool"
  | int (i : Int) : AnyT H (.int i) "int"
  | str (x : Str) : AnyT H (.str x) "str"
  | lst {a : Addr} {xs : List V} (h : H a = some (.lst xs)) : AnyT H (.ref a) "list"
  | tup {a : Addr} {xs : List V} (h : H a = some (.tup xs)) : AnyT H (.ref a) "tuple"
  | dK {a : Addr} {xs : List (Key × V)} (h : H a = some (.dK xs)) : AnyT H (.ref a) "dict"
theorem AnyT.ext {H H' : Hp} (e : Ex H H') {x : V} {t : String} (h : AnyT H x t) : AnyT H' x t := by
  cases h with
  | non => exact .non
  | bl b => exact .bl b
  | int i => exact .int i
  | str x => exact .str x
  | lst h => exact .lst (e _ _ h)
  | tup h => exact .tup (e _ _ h)
  | dK h => exact .dK (e _ _ h)
theorem AnyT.ty {K : PySem.W.Frag} {H : Hp} {x : V} {t : String} (h : AnyT H x t) : TyX K H x (.type t) := by
  cases h with
  | non => exact .base .non
  | bl b => exact .base (.bl b)
  | int i => exact .base (.int i)
  | str x => exact .base (.str x)
  | lst h => exact .base (.lst h)
  | tup h => exact .base (.tup h)
  | dK h => exact .base (.dK h)
abbrev kinds7 : List String := ["NoneType", "bool", "int", "str", "list", "tuple", "dict"]
theorem AnyT.mem {H : Hp} {x : V} {t : String} (h : AnyT H x t) : t ∈ kinds7 := by
  cases h <;> decide
theorem kit7 : (kinds7.all fun t => decide (kitB t "int" = some (t == "int" || t == "bool")) && decide (kitB t "bool" = some (t == "bool")) && decide (kitB t "list" = some (t == "list")) && decide (kitB t "tuple" = some (t == "tuple")) && decide (kitB t "str" = some (t == "str")) && decide (kitB t "dict" = some (t == "dict"))) = true := by decide +kernel
theorem kit_all {t : String} (h : t ∈ kinds7) : kitB t "int" = some (t == "int" || t == "bool") ∧ kitB t "bool" = some (t == "bool") ∧ kitB t "list" = some (t == "list") ∧ kitB t "tuple" = some (t == "tuple") ∧ kitB t "str" = some (t == "str") ∧ kitB t "dict" = some (t == "dict") := by
  have z := List.all_eq_true.mp kit7 t h
  simp only [Bool.and_eq_true, decide_eq_true_eq] at z
  exact ⟨z.1.1.1.1.1, z.1.1.1.1.2, z.1.1.1.2, z.1.1.2, z.1.2, z.2⟩
/-- isinstance(x, T) of a thing of any kind -/
theorem isi_int {K : PySem.W.Frag} {H : Hp} {x : V} {t : String} {Q : VK} (h : AnyT H x t) (q : Q (.bl (t == "int" || t == "bool")) H) : rIsi K [x, .ty "int"] H Q := ⟨x, .ty "int", .type t, .type "int", _, rfl, .ty _, h.ty, kit_ty (kit_all h.mem).1, q⟩
theorem isi_bool {K : PySem.W.Frag} {H : Hp} {x : V} {t : String} {Q : VK} (h : AnyT H x t) (q : Q (.bl (t == "bool")) H) : rIsi K [x, .ty "bool"] H Q := ⟨x, .ty "bool", .type t, .type "bool", _, rfl, .ty _, h.ty, kit_ty (kit_all h.mem).2.1, q⟩
theorem isi_list {K : PySem.W.Frag} {H : Hp} {x : V} {t : String} {Q : VK} (h : AnyT H x t) (q : Q (.bl (t == "list")) H) : rIsi K [x, .ty "list"] H Q := ⟨x, .ty "list", .type t, .type "list", _, rfl, .ty _, h.ty, kit_ty (kit_all h.mem).2.2.1, q⟩
theorem isi_tuple {K : PySem.W.Frag} {H : Hp} {x : V} {t : String} {Q : VK} (h : AnyT H x t) (q : Q (.bl (t == "tuple")) H) : rIsi K [x, .ty "tuple"] H Q := ⟨x, .ty "tuple", .type t, .type "tuple", _, rfl, .ty _, h.ty, kit_ty (kit_all h.mem).2.2.2.1, q⟩
theorem isi_str {K : PySem.W.Frag} {H : Hp} {x : V} {t : String} {Q : VK} (h : AnyT H x t) (q : Q (.bl (t == "str")) H) : rIsi K [x, .ty "str"] H Q := ⟨x, .ty "str", .type t, .type "str", _, rfl, .ty _, h.ty, kit_ty (kit_all h.mem).2.2.2.2.1, q⟩
theorem isi_dict {K : PySem.W.Frag} {H : Hp} {x : V} {t : String} {Q : VK} (h : AnyT H x t) (q : Q (.bl (t == "dict")) H) : rIsi K [x, .ty "dict"] H Q := ⟨x, .ty "dict", .type t, .type "dict", _, rfl, .ty _, h.ty, kit_ty (kit_all h.mem).2.2.2.2.2, q⟩
end MyG

set_option maxHeartbeats 2000000
/-! Data that can be shown and compared, by its size. -/
namespace MyG
open PySem PySem.Spec PyProof.Rows L2 Evl
/-- k: how deep, L: how long its text is at most -/
structure Small (d : PyData) (k L : Nat) : Prop where
  sh : d.showable = true
  nd : d.hasDict = false
  dp : d.depth ≤ k
  ln : d.shown.length ≤ L
  cl : d.canLay0 = true
structure SmallAll (ds : List PyData) (k L : Nat) : Prop where
  sh : PyData.showableAll ds = true
  nd : PyData.hasDictAll ds = false
  dp : PyData.depthAll ds ≤ k
  ln : ((PyData.shownAll ds).map (·.length)).sum ≤ ds.length * L
  ll : (PyData.shownAll ds).length = ds.length
  cl : PyData.canLayAll0 ds = true
theorem Small.all {k L : Nat} : ∀ {ds : List PyData}, (∀ d ∈ ds, Small d k L) → SmallAll ds k L
  | [], _ => ⟨rfl, rfl, Nat.zero_le _, Nat.zero_le _, rfl, rfl⟩
  | d :: ds, h => by
    have h1 := h d (List.mem_cons_self ..)
    have h2 := Small.all fun e he => h e (List.mem_cons_of_mem d he)
    refine ⟨?_, ?_, ?_, ?_, ?_, ?_⟩
    · simp only [PyData.showableAll, h1.sh, h2.sh, Bool.and_self]
    · simp only [PyData.hasDictAll, h1.nd, h2.nd, Bool.or_self]
    · simp only [PyData.depthAll]; exact Nat.max_le.mpr ⟨h1.dp, h2.dp⟩
    · have a := h1.ln
      have b := h2.ln
      simp only [PyData.shownAll, List.map_cons, List.sum_cons, List.length_cons]
      rw [Nat.add_mul, Nat.one_mul]
      omega
    · simp only [PyData.shownAll, List.length_cons, h2.ll]
    · simp only [PyData.canLayAll0, h1.cl, h2.cl, Bool.and_self]
theorem small_list {k L : Nat} {ds : List PyData} (h : ∀ d ∈ ds, Small d k L) : Small (.list ds) (k + 1) (ds.length * (L + 2) + 3) := by
  have a := Small.all h
  refine ⟨by simpa only [PyData.showable] using a.sh, by simpa only [PyData.hasDict] using a.nd, by simp only [PyData.depth]; have := a.dp; omega, ?_, by simpa only [PyData.canLay0] using a.cl⟩
  simp only [PyData.shown]
  have b := listText_len_le (PyData.shownAll ds)
  have c := a.ln
  rw [a.ll] at b
  rw [Nat.mul_add]
  omega
theorem small_tuple {k L : Nat} {ds : List PyData} (h : ∀ d ∈ ds, Small d k L) : Small (.tuple ds) (k + 1) (ds.length * (L + 2) + 3) := by
  have a := Small.all h
  refine ⟨by simpa only [PyData.showable] using a.sh, by simpa only [PyData.hasDict] using a.nd, by simp only [PyData.depth]; have := a.dp; omega, ?_, by simpa only [PyData.canLay0] using a.cl⟩
  simp only [PyData.shown]
  have b := tupleText_len_le (PyData.shownAll ds)
  have c := a.ln
  rw [a.ll] at b
  rw [Nat.mul_add]
  omega
theorem Small.mono {d : PyData} {k L k' L' : Nat} (h : Small d k L) (hk : k ≤ k') (hL : L ≤ L') : Small d k' L' := ⟨h.sh, h.nd, Nat.le_trans h.dp hk, Nat.le_trans h.ln hL, h.cl⟩
theorem Small.shaped {d : PyData} {k L : Nat} (h : Small d k L) (hk : k ≤ 64) : SeqAt.shaped d = true := by
  unfold SeqAt.shaped
  rw [h.cl, decide_eq_true (Nat.le_trans h.dp hk)]
  rfl
theorem small_int {i : Int} (h : i.natAbs < 10 ^ 9) : Small (.int i) 0 10 := by
  have h9 : i.natAbs < 2 ^ 1920 := Nat.lt_of_lt_of_le h (by decide +kernel)
  refine ⟨?_, rfl, Nat.le_refl _, ?_, rfl⟩
  · simp only [PyData.showable]
    refine decide_eq_true ?_
    by_cases z : i.natAbs = 0
    · rw [z]; decide
    · exact (Nat.log2_lt z).mpr h9
  · simp only [PyData.shown]
    have := int_text_length_le10 (a := i) (k := 9) (by decide) h
    rw [PySem.ofString_length]
    exact this
/-! ### data in a heap -/
theorem dp_ints {K : PySem.W.Frag} {H : Hp} : ∀ ns : List Int, DpAll K H (ns.map V.int) (ns.map PyData.int)
  | [] => .nil
  | n :: ns => .cons (.int n) (dp_ints ns)
mutual
theorem Dp.ext {K : PySem.W.Frag} {H H' : Hp} (e : Ex H H') : ∀ {v : V} {d : PyData}, Dp K H v d → Dp K H' v d
  | _, _, .non => .non
  | _, _, .bl b => .bl b
  | _, _, .int i => .int i
  | _, _, .str x => .str x
  | _, _, .lst h a => .lst (ex_l e h) (DpAll.ext e a)
  | _, _, .tup h a => .tup (ex_t e h) (DpAll.ext e a)
theorem DpAll.ext {K : PySem.W.Frag} {H H' : Hp} (e : Ex H H') : ∀ {vs : List V} {ds : List PyData}, DpAll K H vs ds → DpAll K H' vs ds
  | _, _, .nil => .nil
  | _, _, .cons h a => .cons (Dp.ext e h) (DpAll.ext e a)
end
theorem eqvAll_ints_nil {ns : List Int} : PyData.eqvAll (ns.map PyData.int) [] = ns.isEmpty := by
  cases ns with
  | nil => rfl
  | cons x r => rfl
theorem repr_ok {K : PySem.W.Frag} {x : V} {d : PyData} {H : Hp} {Q : VK} {k L : Nat} (h : Dp K H x d) (s : Small d k L) (hk : k ≤ 40) (hL : L ≤ 16000000) (q : Q (.str d.shown) H) : rReprD K [x] H Q :=
  ⟨x, d, rfl, h, s.sh, s.nd, Nat.le_trans s.dp hk, Nat.le_trans (Nat.le_trans s.ln hL) (by rw [sizeLine_eq]; decide), q⟩
end MyG

/-! ### one layer of a reading opened -/
namespace MyG
open PySem PySem.Spec PyProof.Rows L2 Evl
section
variable {σ : L2.St} {H : Hp} {Q : VK} {ta tb : TE} {t : TT} {tt tu : TS} {D : Ends} {g : TG} {as tr : TA}
theorem un_and (h : ta σ H fun x H1 => ∃ c, x = .bl c ∧ if c = true then tb σ H1 Q else Q (.bl false) H1) : tAndV ta tb σ H Q := h
theorem un_or (h : ta σ H fun x H1 => ∃ c, x = .bl c ∧ if c = true then Q (.bl true) H1 else tb σ H1 Q) : tOrV ta tb σ H Q := h
theorem un_cb {r : List V → Hp → VK → Prop} (h : as σ H fun vs H1 => r vs H1 Q) : tCB r as σ H Q := h
theorem un_call {sp : Sp} {dvs : List V} {E : XK} (h : as σ H fun vs H1 => sp (vs ++ dvs) H1 Q E) : tCall sp dvs E as σ H Q := h
theorem un_cons {R : List V → Hp → Prop} (h : ta σ H fun x H1 => tr σ H1 fun xs H2 => R (x :: xs) H2) : tCons ta tr σ H R := h
theorem un_op {r : R2} (h : ta σ H fun x H1 => tb σ H1 fun y H2 => r x y H2 Q) : tOp r ta tb σ H Q := h
theorem un_test {R : Bool → Hp → Prop} (h : ta σ H fun x H' => ∃ k, x = .bl k ∧ R k H') : tTest ta σ H R := h
theorem un_lst (h : as σ H fun xs H1 => xs.length ≤ sizeLine ∧ ∀ p, H1 p = none → Q (.ref p) (upd H1 p (.lst xs))) : tLst as σ H Q := h
theorem un_ret (h : ta σ H D.rt) : tRet ta D σ H := h
theorem un_asg (h : ta σ H fun x H1 => g x σ H1 D.nx) : tAsg ta g D σ H := h
theorem un_seq (h : tt { D with nx := tu D } σ H) : tSeq tt tu D σ H := h
theorem un_if (h : t σ H fun b H1 => if b = true then tt D σ H1 else tu D σ H1) : tIfS t tt tu D σ H := h
end
end MyG
namespace MyG
open PySem PySem.Spec PyProof.Rows L2 Evl
section
variable {σ : L2.St} {H : Hp} {ta : TE} {t : TT} {R : Bool → Hp → Prop}
theorem un_not (h : t σ H fun c H1 => R (!c) H1) : tNot t σ H R := h
theorem un_tB (h : ta σ H fun x H1 => ∃ c, x = .bl c ∧ R c H1) : tB ta σ H R := h
theorem un_c {v : V} {Q : VK} (h : Q v H) : tC v σ H Q := h
theorem un_next {D : Ends} (h : D.nx σ H) : tNext D σ H := h
theorem un_yes (h : R true H) : tYes σ H R := h
end
end MyG

/-! ### the layer's rules with the written part named (for the blocks of comprehensions) -/
namespace MyG
open PySem PySem.Spec PyProof.Rows L2 Evl
section
variable {X : Cx} {K : PySem.W.Frag}
def rLenQ (K : PySem.W.Frag) : List V → Hp → VK → Prop := fun xs H Q => ∃ p ys, xs = [.ref p] ∧ (SqL K H p ys ∨ SqT K H p ys) ∧ Q (.int ys.length) H
def rListQ (K : PySem.W.Frag) : List V → Hp → VK → Prop := fun xs H Q => ∃ p ys, xs = [.ref p] ∧ (SqL K H p ys ∨ SqT K H p ys) ∧ ∀ l, H l = none → Q (.ref l) (upd H l (.lst ys))
theorem ix_listK (h : X.K = K) : IxR X (rIxL K) := by subst h; exact ix_list
theorem ix_tupK (h : X.K = K) : IxR X (rIxT K) := by subst h; exact ix_tup
theorem op_inK (h : X.K = K) : OpR X (compareOp .In) (rIn K false) := by subst h; exact op_in_seq
theorem op_niK (h : X.K = K) : OpR X (compareOp .NotIn) (rIn K true) := by subst h; exact op_notIn_seq
theorem op_eqK (h : X.K = K) (hu : X.A.units + 64 < cLine) : OpR X (compareOp .Eq) (rEqD K) := by subst h; exact op_eqD hu
theorem op_neK (h : X.K = K) (hu : X.A.units + 64 < cLine) : OpR X (compareOp .NotEq) (rNeD K) := by subst h; exact op_neD hu
theorem sl_listK (h : X.K = K) : SlR X (rSlL K) := by subst h; exact sl_list
theorem sl_tupK (h : X.K = K) : SlR X (rSlT K) := by subst h; exact sl_tup
theorem catTK (h : X.K = K) : OpR X (binaryOp .Add) (rCatT K) := by subst h; exact op_catT
theorem lenK (h : X.K = K) : CallR X (.builtin "len") (rLenQ K) := by subst h; exact call_len_seq
theorem listK (h : X.K = K) : CallR X (.type "list") (rListQ K) := by subst h; exact call_list_of
theorem sumK (h : X.K = K) (hc : X.calm = true) : CallR X (.builtin "sum") (rSum K) := by subst h; exact cr_sum hc
theorem allK (h : X.K = K) (hc : X.calm = true) : CallR X (.builtin "all") (rAll K) := by subst h; exact cr_all hc
theorem sortedK (h : X.K = K) : CallR X (.builtin "sorted") (rSorted K) := by subst h; exact cr_sorted
theorem isiK (h : X.K = K) : CallR X (.builtin "isinstance") (rIsi K) := by subst h; exact call_isi
theorem reprK {k : Nat} (h : X.K = K) (hgd : X.A.guards = some []) (room : Room k X.A) : CallR X (.builtin "repr") (rReprD K) := by subst h; exact call_reprD hgd room
theorem fldK {e : Expr} {ta : TE} {f : Str} {pos : Pos} (h : X.K = K) (he : PE X e ta) (hb : attributeBase e f X.env (eval e X.env) = eval e X.env) : PE X (.Attribute e f pos) (tFld K ta f) := by subst h; exact pe_fld he hb
theorem iListK {tg l : Expr} {tl : TE} (h : X.K = K) (hl : PE X l tl) : PI X tg l (iList K tl) := by subst h; exact pi_list hl
theorem iTupK {tg l : Expr} {tl : TE} (h : X.K = K) (hl : PE X l tl) : PI X tg l (iTup K tl) := by subst h; exact pi_tup hl
theorem lenSetK {a : Expr} {ta : TE} {p p2 q pos : Pos} (h : X.K = K) (hg : Gl X "len") (hm : X.mg "len" = none) (hg2 : Gl X "set") (hm2 : X.mg "set" = none) (ha : PE X a ta) (hc : X.calm = true := by rfl)
    (na : starEach [a] X.env = (false, eval a X.env) :: starEach [] X.env := by rfl) : PE X (.Call (.Name "len" p) [.Call (.Name "set" p2) [a] [] q] [] pos) (tLenSetG K ta) := by subst h; exact pe_lenSetG hg hm hg2 hm2 ha hc na
end
end MyG

set_option maxHeartbeats 2000000
/-! == and != where an instance with an own __eq__ stands on one side. -/
namespace MyG
open PySem PySem.Spec PyProof.Rows
section
variable {prog : Program} {w : World} {A : Around} {E : Value → Shared → Prop} {h : Heap} {g : Array GenState} {d : Drawn} {t : Nat} {os : OsState} {x C dx : Addr} {Q : Value → Shared → Prop}
/-- what the built-in == says of an instance on its right: it declines -/
def Declines (prog : Program) (w : World) (A : Around) (h : Heap) (id : String) (u : Value) (x : Addr) : Prop :=
  ∀ (E : Value → Shared → Prop) (Q : Value → Shared → Prop) (g : Array GenState) (d : Drawn) (t : Nat) (os : OsState), (∀ tk, Q .notImplemented ⟨h, g, d, tk, os⟩) → wpAny (model prog w) A (call (.builtin id) [u, .ref x]) Q E ⟨h, g, d, t, os⟩
theorem dec_none : Declines prog w A h "NoneType.__eq__" .none x := by
  intro E Q g d t os q
  refine wpAny_call_entry F.slot_NoneType_eq (typeIs_none _) F.entry_NoneType_eq ?_ (F.args_NoneType_eq_2 _ _)
  unfold Builtin.«NoneType.__eq__»
  repeat wp_step
  all_goals exact ⟨_, rfl, q _⟩
theorem dec_int {i : Int} {tk : Tok} (hx : h.get? x = some (PySem.W.instObj C dx)) : Declines prog w A h "int.__eq__" (.int i tk) x := by
  intro E Q g d t os q
  refine wpAny_call_entry F.slot_int_eq (typeIs_int _ _ _) F.entry_int_eq ?_ (F.args_int_eq_2 _ _)
  unfold Builtin.«int.__eq__»
  repeat wp_step
  all_goals exact ⟨_, rfl, q _⟩
theorem dec_bool {b : Bool} (hx : h.get? x = some (PySem.W.instObj C dx)) : Declines prog w A h "int.__eq__" (.bool b) x := by
  intro E Q g d t os q
  refine wpAny_call_entry F.slot_bool_eq (PySem.typeIs_bool _ _) F.entry_int_eq ?_ (F.args_int_eq_2 _ _)
  unfold Builtin.«int.__eq__»
  repeat wp_step
  all_goals exact ⟨_, rfl, q _⟩
theorem dec_str {y : Str} {tk : Tok} (hx : h.get? x = some (PySem.W.instObj C dx)) : Declines prog w A h "str.__eq__" (.str y tk) x := by
  intro E Q g d t os q
  refine wpAny_call_entry F.slot_str_eq (typeIs_str _ _ _) F.entry_str_eq ?_ (F.args_str_eq_2 _ _)
  unfold Builtin.«str.__eq__» Builtin.Str.strCompare
  repeat wp_step
  all_goals exact ⟨_, rfl, q _⟩
theorem inst_not {T : String} (hx : h.get? x = some (PySem.W.instObj C dx)) (hs : PySem.W.Looks (model prog w) h (isSubtype (.ref C) (.type T)) false) {A : Around} {E : Value → Shared → Prop} {Q : Bool → Shared → Prop} (q : Q false ⟨h, g, d, t, os⟩) :
    wpAny (model prog w) A (isInstance (.ref x) (.type T)) Q E ⟨h, g, d, t, os⟩ := by
  unfold isInstance
  exact wpAny_bind (wpAny_typeOf_ref hx (hs.at q))
theorem dec_list {l : Addr} {o : Obj} (hl : h.get? l = some o) (hlc : o.cls = .type "list") (hx : h.get? x = some (PySem.W.instObj C dx)) (hs : PySem.W.Looks (model prog w) h (isSubtype (.ref C) (.type "list")) false) : Declines prog w A h "list.__eq__" (.ref l) x := by
  intro E Q g d t os q
  refine wpAny_call_entry F.slot_list_eq ⟨_, hl, hlc⟩ F.entry_list_eq ?_ (F.args_list_eq_2 _ _)
  unfold Builtin.«list.__eq__»
  repeat (first | (refine wpAny_bind (m := isInstance (.ref x) (.type "list")) (inst_not hx hs ?_)) | wp_step)
  all_goals exact ⟨_, rfl, q _⟩
theorem dec_tuple {l : Addr} {o : Obj} (hl : h.get? l = some o) (hlc : o.cls = .type "tuple") (hx : h.get? x = some (PySem.W.instObj C dx)) (hs : PySem.W.Looks (model prog w) h (isSubtype (.ref C) (.type "tuple")) false) : Declines prog w A h "tuple.__eq__" (.ref l) x := by
  intro E Q g d t os q
  refine wpAny_call_entry F.slot_tuple_eq ⟨_, hl, hlc⟩ F.entry_tuple_eq ?_ (F.args_tuple_eq_2 _ _)
  unfold Builtin.«tuple.__eq__»
  repeat (first | (refine wpAny_bind (m := isInstance (.ref x) (.type "tuple")) (inst_not hx hs ?_)) | wp_step)
  all_goals exact ⟨_, rfl, q _⟩
theorem dec_dict {l : Addr} {o : Obj} (hl : h.get? l = some o) (hlc : o.cls = .type "dict") (hx : h.get? x = some (PySem.W.instObj C dx)) (hs : PySem.W.Looks (model prog w) h (isSubtype (.ref C) (.type "dict")) false) : Declines prog w A h "dict.__eq__" (.ref l) x := by
  intro E Q g d t os q
  refine wpAny_call_entry F.slot_dict_eq ⟨_, hl, hlc⟩ F.entry_dict_eq ?_ (F.args_dict_eq_2 _ _)
  unfold Builtin.«dict.__eq__»
  repeat (first | (refine wpAny_bind (m := isInstance (.ref x) (.type "dict")) (inst_not hx hs ?_)) | wp_step)
  all_goals exact ⟨_, rfl, q _⟩
/-- u == x, u of a built-in type whose == declines, x an instance: the other way about, by its own -/
theorem rc_right {u : Value} {T id : String} {K : PySem.W.Frag} {f : Addr} (hT : ∀ s : Shared, s.heap = h → s.TypeIs u T) (hs1 : Slot T (cmpInfo .Eq).2.1 id) (dec : Declines prog w A h id u x) (KX : K.In h) (hx : h.get? x = some (PySem.W.instObj C dx))
    (hs : PySem.W.Looks (model prog w) h (isSubtype (.ref C) (.type T)) false) (he : PySem.W.findIn K (.ref C) "__eq__" = some (some (.ref f))) (hf : PySem.W.isFn K (.ref f) = true) (hu : A.units < cLine)
    (I : PySem.W.InstAt h x (PySem.W.instObj C dx) C none ∨ ∃ od, PySem.W.InstAt h x (PySem.W.instObj C dx) C (some od))
    (hcall : ∀ tk, wpAny (model prog w) A (call (.ref f) [.ref x, u]) (fun v s' => ∃ b, v = .bool b ∧ Q v s') E ⟨h, g, d, tk, os⟩) :
    wpAny (model prog w) A (richCompare .Eq u (.ref x)) Q E ⟨h, g, d, t, os⟩ := by
  obtain ⟨od, I⟩ : ∃ od, PySem.W.InstAt h x (PySem.W.instObj C dx) C od := by
    rcases I with I | ⟨od, I⟩
    · exact ⟨_, I⟩
    · exact ⟨_, I⟩
  unfold richCompare
  rw [(hT ⟨h, g, d, t, os⟩ rfl).oneThing_none]
  refine wpAny_holding (wpAny_bind (wpAny_cRoomFor hu ?_))
  rw [cmpInfo_Eq]
  dsimp only
  refine wpAny_bind (wpAny_typeOf (hT _ rfl) (wpAny_bind (wpAny_typeOf_ref hx ?_)))
  rw [show (Value.type T != (PySem.W.instObj C dx).cls) = true from rfl, if_pos rfl]
  refine wpAny_bind (hs.at ?_)
  simp only [Bool.false_eq_true, if_false, Bool.not_false, if_true]
  refine wpAny_bind (m := tryCompare u _ (.ref x)) (wpAny_tryCompare_declines (hT _ rfl) hs1 (dec _ _ _ _ _ _ fun tk => ⟨rfl, ?_⟩))
  refine wpAny_bind (m := tryCompare (.ref x) _ u) ?_
  unfold tryCompare
  refine wpAny_bind (PySem.W.ifBound_K (KX) I he hf (wpAny_mono (hcall tk) (fun v s' hv => ?_) fun _ _ e => e))
  obtain ⟨b, rfl, hq⟩ := hv
  exact wpAny_pure (wpAny_pure hq)
/-- x != b by the built-in !=, which asks the own == -/
theorem ne_own {b tb : Value} {K : PySem.W.Frag} {f : Addr} {od : Option Obj} (KX : K.In h) (I : PySem.W.InstAt h x (PySem.W.instObj C dx) C od) (hb : PySem.W.Looks (model prog w) h (typeOf b) tb) (hn : PySem.W.notFirst K C tb = true)
    (he : PySem.W.findIn K (.ref C) "__eq__" = some (some (.ref f))) (hf : PySem.W.isFn K (.ref f) = true) (hne : PySem.W.findIn K (.ref C) "__ne__" = some (some (.builtin "object.__ne__"))) (hob : PySem.W.subIn K (.ref C) (.type "object") = some true) (hu : A.units + 1 < cLine)
    (hcall : ∀ tk, wpAny (model prog w) A.in1 (call (.ref f) [.ref x, b]) (fun v s' => ∃ k, v = .bool k ∧ Q (.bool (!k)) s') E ⟨h, g, d, tk, os⟩) :
    wpAny (model prog w) A (richCompare .NotEq (.ref x) b) Q E ⟨h, g, d, t, os⟩ := by
  have hx := I.at_
  -- the built-in's own body
  have body : ∀ tk, wpAny (model prog w) A.in1 (Builtin.«object.__ne__» ⟨[.ref x, b], []⟩) (fun fin s' => ∃ k, fin = .done (.ret (.bool k)) ∧ Q (.bool k) s') E ⟨h, g, d, tk, os⟩ := by
    intro tk
    unfold Builtin.«object.__ne__»
    repeat (first
      | with_reducible refine wpAny_cRoomFor hu ?_
      | (refine wpAny_bind (m := callSpecialIfBound? (.ref x) (Str.ofString "__eq__") [b]) (PySem.W.ifBound_K KX I he hf (wpAny_mono (hcall _) (fun r s' hr => by
            obtain ⟨k, rfl, hq⟩ := hr
            repeat (first | exact ⟨_, rfl, hq⟩ | (refine wpAny_bind (m := truthy (.bool _)) (wpAny_truthy_bool ?_)) | wp_step)) fun _ _ e => e)))
      | wp_step)
  have chk : ∀ tk {Q' : Unit → Shared → Prop} {E' : Value → Shared → Prop}, Q' () ⟨h, g, d, tk, os⟩ → wpAny (model prog w) A.in1 (checkBuiltinCall "object.__ne__" ⟨[.ref x, b], []⟩) Q' E' ⟨h, g, d, tk, os⟩ := by
    intro tk Q' E' hq
    simp only [checkBuiltinCall, F.cmpKind_ne, F.cmpSplit_ne]
    refine wpAny_bind ?_
    · unfold isInstance
      repeat (first | (with_reducible refine wpAny_loadPart_at hx ?_) | wp_step)
      refine (PySem.W.looks_subIn KX hob).at ?_
      simp only [Bool.not_true, Bool.false_eq_true, if_false]
      have ha := F.cmpArgs_ne (.ref x) b
      cases hsig : Manifest.signature? "object.__ne__" with
      | none => exact wpAny_pure hq
      | some sig =>
        simp only [argsOk, hsig] at ha
        have h2 : Bind.checkArgs "object.__ne__" sig ⟨[.ref x, b], []⟩ = pure () := ha
        show wpAny _ _ (Bind.checkArgs "object.__ne__" sig ⟨[.ref x, b], []⟩) Q' E' _
        rw [h2]
        exact wpAny_pure hq
  have one : ∀ tk, wpAny (model prog w) A (tryCompare (.ref x) "__ne__" b) (fun r s' => ∃ k, r = some (.bool k) ∧ Q (.bool k) s') E ⟨h, g, d, tk, os⟩ := by
    intro tk
    unfold tryCompare
    have inner : ∀ tk, wpAny (model prog w) A (call (.builtin "object.__ne__") [.ref x, b]) (fun v s' => ∃ k, v = .bool k ∧ Q (.bool k) s') E ⟨h, g, d, tk, os⟩ := by
      intro tk
      refine wpAny_call (codeAny_call_builtin F.slot_range_iterator_ne.plain F.cmpEntry_ne (chk tk ?_))
      refine wpAny_mono (body tk) (fun fin s' hf => ?_) fun _ _ e => e
      obtain ⟨k, rfl, hq⟩ := hf
      exact ⟨k, rfl, hq⟩
    refine wpAny_bind (m := callSpecialIfBound? (.ref x) "__ne__" [b]) ?_
    simp only [callSpecialIfBound?, bindSpecialIfBound?]
    refine wpAny_holding (wpAny_bind (wpAny_bind (wpAny_bind (I.type.at ((PySem.W.looks_findIn KX hne).at ?_)))))
    simp only [F.slot_range_iterator_ne.bind]
    refine wpAny_bind (wpAny_askSetting (wpAny_ite ?_))
    have fin : ∀ tk, wpAny (model prog w) A (call (.builtin "object.__ne__") ([.ref x] ++ [b]) >>= fun v => pure (some v)) (fun a s' => wpAny (model prog w) A (match a with
        | some .notImplemented | none => pure none
        | some v => pure (some v)) (fun r s' => ∃ k, r = some (.bool k) ∧ Q (.bool k) s') E s') E ⟨h, g, d, tk, os⟩ := fun tk =>
      wpAny_bind (wpAny_mono (inner tk) (fun v s' hv => by
        obtain ⟨k, rfl, hq⟩ := hv
        exact wpAny_pure (wpAny_pure ⟨k, rfl, hq⟩)) fun _ _ e => e)
    split
    · exact wpAny_bind (wpAny_pure (wpAny_pure (fin _)))
    · exact wpAny_tryCatch (wpAny_bind (wpAny_pure (wpAny_pure (fin _))))
  unfold richCompare
  simp only [oneThing_ref]
  refine wpAny_holding (wpAny_bind (wpAny_cRoomFor (Nat.lt_of_succ_lt hu) ?_))
  rw [cmpInfo_NotEq]
  dsimp only
  refine wpAny_bind (I.type.at (wpAny_bind (hb.at ?_)))
  by_cases q : (Value.ref C != tb) = true
  · rw [if_pos q]
    have e : PySem.W.subIn K tb (.ref C) = some false := by
      rcases Bool.or_eq_true_iff.mp hn with e | e
      · rw [beq_iff_eq.mp e] at q
        simp at q
      · exact beq_iff_eq.mp e
    refine wpAny_bind ((PySem.W.looks_subIn KX e).at ?_)
    simp only [Bool.false_eq_true, if_false]
    refine wpAny_bind (wpAny_mono (one _) (fun r s' hr => ?_) fun _ _ e => e)
    obtain ⟨k, rfl, hq⟩ := hr
    exact wpAny_pure hq
  · rw [if_neg q]
    refine wpAny_bind (wpAny_pure ?_)
    simp only [Bool.false_eq_true, if_false]
    refine wpAny_bind (wpAny_mono (one _) (fun r s' hr => ?_) fun _ _ e => e)
    obtain ⟨k, rfl, hq⟩ := hr
    exact wpAny_pure hq
end
end MyG

/-! ### the same over the layer -/
namespace MyG
open PySem PySem.Spec PyProof.Rows L2 Evl
/-- what is written of a class with an own __eq__ (f) and no own __ne__ -/
structure EqC (K : PySem.W.Frag) (C f : Addr) : Prop where
  he : PySem.W.findIn K (.ref C) "__eq__" = some (some (.ref f))
  hf : PySem.W.isFn K (.ref f) = true
  ne : PySem.W.findIn K (.ref C) "__ne__" = some (some (.builtin "object.__ne__"))
  ob : PySem.W.subIn K (.ref C) (.type "object") = some true
  no : ∀ T ∈ kinds7, PySem.W.subIn K (.ref C) (.type T) = some false
/-- an instance of the class at C, or a thing of a built-in kind -/
def AnyI (C : Addr) (H : Hp) (y : V) : Prop := (∃ t, AnyT H y t) ∨ ∃ b dy gs, y = .ref b ∧ H b = some (.ins C dy gs)
theorem mro7 : (kinds7.all fun t => match fastBuiltinMro t with
  | some l => l.all fun v => match v with
    | .ref _ => false
    | _ => true
  | none => false) = true := by decide +kernel
theorem first7 {K : PySem.W.Frag} {C : Addr} {t : String} (h : t ∈ kinds7) : PySem.W.notFirst K C (.type t) = true := by
  have z := List.all_eq_true.mp mro7 t h
  unfold PySem.W.notFirst
  rw [Bool.or_eq_true]
  right
  show (((fastBuiltinMro t).map (·.contains (.ref C))) == some false) = true
  cases e : fastBuiltinMro t with
  | none => rw [e] at z; cases z
  | some l =>
    rw [e] at z
    have z' : ∀ v ∈ l, (match v with | .ref _ => false | _ => true) = true := List.all_eq_true.mp z
    have n : l.contains (.ref C) = false := by
      cases c : l.contains (.ref C) with
      | false => rfl
      | true =>
        have m := List.contains_iff_mem.mp c
        exact absurd (z' _ m) Bool.false_ne_true
    simp only [Option.map_some, n]
    rfl
section
variable {X : Cx} {pins : List (Addr × Obj)} {σ : L2.St} {H : Hp} {s : Shared} {C f : Addr} {fd : FuncData} {ps : List Str} {n : Nat} {sp : Sp} {CX : CXT} {E : XK}
theorem any_type {y : V} {v : Value} {t : String} (I : Inv X pins σ H s) (r : RelV y v) (a : AnyT H y t) : ∀ s' : Shared, s'.heap = s.heap → s'.TypeIs v t := by
  intro s' hs
  cases a with
  | non => cases (show v = Value.none from r); exact typeIs_none _
  | bl b => cases (show v = Value.bool b from r); exact PySem.typeIs_bool _ _
  | int i => obtain ⟨k, rfl⟩ := (show ∃ k, v = Value.int i k from r); exact typeIs_int _ _ _
  | str x => obtain ⟨k, rfl⟩ := (show ∃ k, v = Value.str x k from r); exact typeIs_str _ _ _
  | @lst a xs h =>
    cases (show v = Value.ref a from r)
    obtain ⟨_, _, k, _, e⟩ := I.hok a _ h
    exact ⟨_, by rw [hs]; exact e, rfl⟩
  | @tup a xs h =>
    cases (show v = Value.ref a from r)
    obtain ⟨_, _, _, o, e, e2, _⟩ := I.hok a _ h
    exact ⟨o, by rw [hs]; exact e, e2⟩
  | @dK a xs h =>
    cases (show v = Value.ref a from r)
    obtain ⟨_, _, _, _, o, _, _, e, e2, _⟩ := I.hok a _ h
    exact ⟨o, by rw [hs]; exact e, e2.1⟩
theorem any_looks {y : V} {v : Value} {M : Model} {t : String} (I : Inv X pins σ H s) (r : RelV y v) (a : AnyT H y t) : PySem.W.Looks M s.heap (typeOf v) (.type t) := by
  intro A Q E s' k q
  have J : s'.TypeIs v t := by
    cases a with
    | non => cases (show v = Value.none from r); exact typeIs_none _
    | bl b => cases (show v = Value.bool b from r); exact PySem.typeIs_bool _ _
    | int i => obtain ⟨k, rfl⟩ := (show ∃ k, v = Value.int i k from r); exact typeIs_int _ _ _
    | str x => obtain ⟨k, rfl⟩ := (show ∃ k, v = Value.str x k from r); exact typeIs_str _ _ _
    | @lst a xs h =>
      cases (show v = Value.ref a from r)
      obtain ⟨_, _, n, _, e⟩ := I.hok a _ h
      exact ⟨_, k _ _ e, rfl⟩
    | @tup a xs h =>
      cases (show v = Value.ref a from r)
      obtain ⟨_, _, _, o, e, e2, _⟩ := I.hok a _ h
      exact ⟨o, k _ _ e, e2⟩
    | @dK a xs h =>
      cases (show v = Value.ref a from r)
      obtain ⟨_, _, _, _, o, _, _, e, e2, _⟩ := I.hok a _ h
      exact ⟨o, k _ _ e, e2.1⟩
  exact wpAny_typeOf J q
def rEqL (C : Addr) (sp : Sp) (E : XK) : R2 := fun x y H Q => ∃ a dx fs, x = .ref a ∧ H a = some (.ins C dx fs) ∧ AnyI C H y ∧ sp [.ref a, y] H (fun v H' => ∃ k, v = .bl k ∧ Q (.bl k) H') E
def rNeL (C : Addr) (sp : Sp) (E : XK) : R2 := fun x y H Q => ∃ a dx fs, x = .ref a ∧ H a = some (.ins C dx fs) ∧ AnyI C H y ∧ sp [.ref a, y] H (fun v H' => ∃ k, v = .bl k ∧ Q (.bl (!k)) H') E
def rEqR (C : Addr) (sp : Sp) (E : XK) : R2 := fun y x H Q => ∃ a dx fs t, x = .ref a ∧ H a = some (.ins C dx fs) ∧ AnyT H y t ∧ sp [.ref a, y] H (fun v H' => ∃ k, v = .bl k ∧ Q (.bl k) H') E
/-- the own __eq__, called wherever there is room -/
theorem run_eq {A : Around} {v : Value} {y : V} {a : Addr} {Q : VK} (F : FnOk X.prog X.w X.K X.mg X.base CX n f fd ps sp) (room : Room n A) (fr : A.frames = X.A.frames) (hb : Binds X.K fd ps []) (hx : Passes CX X E) (I : Inv X pins σ H s) (r : RelV y v) (h : sp [.ref a, y] H Q E) :
    wpAny (model X.prog X.w) A (call (.ref f) [.ref a, v]) (EP X pins σ Q) X.xe s := by
  have e0 : Env0 X.prog X.w X.K X.mg X.base A X.stack s H := { I.env0 with frames := by rw [fr]; exact I.env0.frames }
  have rel : Vals [V.ref a, y] [Value.ref a, v] := .cons rfl (.cons r .nil)
  have hl : [Value.ref a, v].length = ps.length := rel.length.symm.trans (F.len _ _ _ _ h)
  have b := hb s [Value.ref a, v] I.kIn (by rw [List.append_nil]; exact hl)
  rw [List.append_nil] at b
  refine wpAny_call (codeAny_mono (F.run A X.stack s H ⟨[.ref a, v], []⟩ [.ref a, v] [.ref a, y] Q E room e0 b rel h) (fun r s' hq => ?_))
  match r, hq with
  | .error e, hq => exact hx pins σ H s e s' I hq
  | .ok (.ret u), hq => exact I.after hq
theorem op_eqL (c : EqC X.K C f) (F : FnOk X.prog X.w X.K X.mg X.base CX n f fd ps sp) (room : Room n X.A) (hb : Binds X.K fd ps []) (hx : Passes CX X E) : OpR X (compareOp .Eq) (rEqL C sp E) := by
  intro pins s σ H x y v u Q I rx ry h
  obtain ⟨a, dx, fs, rfl, ha, hy, hs⟩ := h
  cases rx
  obtain ⟨mA, J, _⟩ := ins_get I.hok ha
  obtain ⟨od, J, _⟩ := J.look
  obtain ⟨m, hF⟩ := I.fr
  show wpAny (model X.prog X.w) X.A (richCompare .Eq (.ref a) u) (EP X pins σ Q) X.xe s
  have go : wpAny (model X.prog X.w) X.A (call (.ref f) [.ref a, u]) (PySem.W.CmpBack (EP X pins σ Q)) X.xe s := by
    refine wpAny_mono (run_eq F room rfl hb hx I ry hs) (fun w s' hw => ?_) fun _ _ e => e
    obtain ⟨z, H', I', rz, k, rfl, hq⟩ := hw
    cases rz
    exact ⟨.bl k, H', I', rfl, hq⟩
  rcases hy with ⟨t, ht⟩ | ⟨b, dy, gs, rfl, hb'⟩
  · exact PySem.W.cmp_K (op := .Eq) (tb := .type t) room.units0 hF I.ok.mod.kin J (any_looks I ry ht) (first7 ht.mem) c.he c.hf go
  · cases ry
    obtain ⟨mB, J', _⟩ := ins_get I.hok hb'
    obtain ⟨od', J', _⟩ := J'.look
    exact PySem.W.cmp_K (op := .Eq) (tb := .ref C) room.units0 hF I.ok.mod.kin J J'.type (by simp [PySem.W.notFirst]) c.he c.hf go
theorem op_neL (c : EqC X.K C f) (F : FnOk X.prog X.w X.K X.mg X.base CX n f fd ps sp) (room : Room (n + 1) X.A) (hb : Binds X.K fd ps []) (hx : Passes CX X E) : OpR X (compareOp .NotEq) (rNeL C sp E) := by
  intro pins s σ H x y v u Q I rx ry h
  obtain ⟨a, dx, fs, rfl, ha, hy, hs⟩ := h
  cases rx
  obtain ⟨mA, J, _⟩ := ins_get I.hok ha
  obtain ⟨od, J, _⟩ := J.look
  show wpAny (model X.prog X.w) X.A (richCompare .NotEq (.ref a) u) (EP X pins σ Q) X.xe s
  have un := room.units
  obtain ⟨hp, g, d, tk, os⟩ := s
  have go : ∀ tk', wpAny (model X.prog X.w) X.A.in1 (call (.ref f) [.ref a, u]) (fun v s' => ∃ k, v = .bool k ∧ EP X pins σ Q (.bool (!k)) s') X.xe ⟨hp, g, d, tk', os⟩ := by
    intro tk'
    refine wpAny_mono (run_eq F room.in1 rfl hb hx (I.tok tk') ry hs) (fun w s' hw => ?_) fun _ _ e => e
    obtain ⟨z, H', I', rz, k, rfl, hq⟩ := hw
    cases rz
    exact ⟨k, rfl, .bl (!k), H', I', rfl, hq⟩
  rcases hy with ⟨t, ht⟩ | ⟨b, dy, gs, rfl, hb'⟩
  · exact ne_own (tb := .type t) I.kIn J (any_looks I ry ht) (first7 ht.mem) c.he c.hf c.ne c.ob (by omega) go
  · cases ry
    obtain ⟨mB, J', _⟩ := ins_get I.hok hb'
    obtain ⟨od', J', _⟩ := J'.look
    exact ne_own (tb := .ref C) I.kIn J J'.type (by simp [PySem.W.notFirst]) c.he c.hf c.ne c.ob (by omega) go
theorem op_eqRt (c : EqC X.K C f) (F : FnOk X.prog X.w X.K X.mg X.base CX n f fd ps sp) (room : Room n X.A) (hb : Binds X.K fd ps []) (hx : Passes CX X E) : OpR X (compareOp .Eq) (rEqR C sp E) := by
  intro pins s σ H y x u v Q I ry rx h
  obtain ⟨a, dx, fs, t, rfl, ha, ht, hs⟩ := h
  cases rx
  obtain ⟨mA, J, _⟩ := ins_get I.hok ha
  obtain ⟨od, J, _⟩ := J.look
  have un := room.units0
  have hT := any_type I ry ht
  have sub := PySem.W.looks_subIn (M := model X.prog X.w) I.kIn (c.no t ht.mem)
  show wpAny (model X.prog X.w) X.A (richCompare .Eq u (.ref a)) (EP X pins σ Q) X.xe s
  have hx' := J.at_
  have ok := I.hok
  obtain ⟨hp, g, d, tk, os⟩ := s
  have go : ∀ tk', wpAny (model X.prog X.w) X.A (call (.ref f) [.ref a, u]) (fun v s' => ∃ k, v = .bool k ∧ EP X pins σ Q v s') X.xe ⟨hp, g, d, tk', os⟩ := by
    intro tk'
    refine wpAny_mono (run_eq F room rfl hb hx (I.tok tk') ry hs) (fun w s' hw => ?_) fun _ _ e => e
    obtain ⟨z, H', I', rz, k, rfl, hq⟩ := hw
    cases rz
    exact ⟨k, rfl, .bl k, H', I', rfl, hq⟩
  have fin : ∀ {id : String}, Slot t (cmpInfo .Eq).2.1 id → Declines X.prog X.w X.A hp id u a → wpAny (model X.prog X.w) X.A (richCompare .Eq u (.ref a)) (EP X pins σ Q) X.xe ⟨hp, g, d, tk, os⟩ := fun {id} sl dec =>
    rc_right hT sl dec I.kIn hx' sub c.he c.hf un (.inr ⟨_, J⟩) go
  cases ht with
  | non => cases (show u = Value.none from ry); exact fin PySem.F.slot_NoneType_eq dec_none
  | bl b => cases (show u = Value.bool b from ry); exact fin PySem.F.slot_bool_eq (dec_bool hx')
  | int i => obtain ⟨k, rfl⟩ := (show ∃ k, u = Value.int i k from ry); exact fin PySem.F.slot_int_eq (dec_int hx')
  | str z => obtain ⟨k, rfl⟩ := (show ∃ k, u = Value.str z k from ry); exact fin PySem.F.slot_str_eq (dec_str hx')
  | @lst b xs h =>
    cases (show u = Value.ref b from ry)
    obtain ⟨_, _, k, _, e⟩ := ok b _ h
    exact fin PySem.F.slot_list_eq (dec_list e rfl hx' sub)
  | @tup b xs h =>
    cases (show u = Value.ref b from ry)
    obtain ⟨_, _, _, o, e, e2, _⟩ := ok b _ h
    exact fin PySem.F.slot_tuple_eq (dec_tuple e e2 hx' sub)
  | @dK b xs h =>
    cases (show u = Value.ref b from ry)
    obtain ⟨_, _, _, _, o, _, _, e, e2, _⟩ := ok b _ h
    exact fin PySem.F.slot_dict_eq (dec_dict e e2.1 hx' sub)
end
end MyG

set_option maxHeartbeats 2000000
/-! x in [y], both instances with an own __eq__. -/
namespace MyG
open PySem PySem.SeqAt
open AutoSeq1 (wpAny_loadPart')
open MeetsSeq MeetsSeq2 MeetsSeq3 SeqRoads2
section
variable {prog : Program} {w : World} {A : Around} {E : Value → Shared → Prop} {R : Result → Shared → Prop}
theorem end_loop {l : Addr} {items : Array Value} {x : Value} {i n : Nat} {s : Shared} (hl : s.heap.get? l = some { cls := .type "list", data := .seq items n }) (hi : items[i]? = none) (h : ∀ tk, R (.ok (.ret (.bool false))) { s with toks := tk }) :
    wpAny (model prog w) A.in1 (Builtin.«list.__contains__.loop» ⟨[.ref l, x, rawInt (i : Int)], []⟩) (GQ.FinOf prog w A R) (fun e s' => R (.error e) s') s := by
  obtain ⟨hp, g, d, tk, os⟩ := s
  wp_walk using wpAny_loadPart' hl
  have hi' : items[((i : Nat) : Int).toNat]? = none := by simpa using hi
  rw [hi']
  wp_walk
  exact h _
theorem one_loop {l : Addr} {items : Array Value} {u x : Value} {i n : Nat} {s : Shared} (hl : s.heap.get? l = some { cls := .type "list", data := .seq items n }) (hi : items[i]? = some u)
    (he : ∀ tk, wpAny (model prog w) A.in1 (eqBool u x) (fun k s' => (∃ (its : Array Value) (m : Nat), s'.heap.get? l = some { cls := .type "list", data := .seq its m } ∧ its[i + 1]? = none) ∧ ∀ tk', R (.ok (.ret (.bool k))) { s' with toks := tk' }) (fun e s' => R (.error e) s') { s with toks := tk }) :
    wpAny (model prog w) A.in1 (Builtin.«list.__contains__.loop» ⟨[.ref l, x, rawInt (i : Int)], []⟩) (GQ.FinOf prog w A R) (fun e s' => R (.error e) s') s := by
  obtain ⟨hp, g, d, tk, os⟩ := s
  wp_walk using wpAny_loadPart' hl
  have hi' : items[((i : Nat) : Int).toNat]? = some u := by simpa using hi
  rw [hi']
  refine wpAny_bind (wpAny_mono (he _) (fun k s' hk => ?_) fun _ _ e => e)
  obtain ⟨⟨its, m, hv, hn⟩, hR⟩ := hk
  cases k with
  | true =>
    obtain ⟨hp', g', d', tk', os'⟩ := s'
    wp_walk
    exact hR _
  | false =>
    obtain ⟨hp', g', d', tk', os'⟩ := s'
    have hc : ((i : Int) + 1) = ((i + 1 : Nat) : Int) := by push_cast; rfl
    wp_walk
    rw [hc]
    refine ⟨plainId_quiet plain_contains_loop _, codeAny_builtin entry_contains_loop ?_⟩
    rw [Around.under_plainId plain_contains_loop _]
    exact end_loop hv hn hR
theorem contains_one {l : Addr} {items : Array Value} {u x : Value} {n : Nat} {s : Shared} {Q : Value → Shared → Prop} (hl : s.heap.get? l = some { cls := .type "list", data := .seq items n }) (h0 : items[0]? = some u)
    (he : ∀ tk, wpAny (model prog w) A.in1 (eqBool u x) (fun k s' => (∃ (its : Array Value) (m : Nat), s'.heap.get? l = some { cls := .type "list", data := .seq its m } ∧ its[0 + 1]? = none) ∧ ∀ tk', Q (.bool k) { s' with toks := tk' }) E { s with toks := tk }) :
    wpAny (model prog w) A (compareOp .In x (.ref l)) Q E s := by
  show wpAny _ A (do return .bool (← contains (.ref l) x)) Q E s
  refine wpAny_bind (wpAny_contains_slot ⟨_, hl, rfl⟩ F.slot_list_contains (wpAny_mono (GQ.call_here (Q := fun v s' => ∃ k, v = .bool k ∧ ∀ tk', Q (.bool k) { s' with toks := tk' }) F.slot_list_contains ⟨_, hl, rfl⟩ F.entry_list_contains (F.args_list_contains_2 _ _) ?_) (fun v s' hv => ?_) fun _ _ e => e))
  · obtain ⟨hp, g, d, tk, os⟩ := s
    unfold Builtin.«list.__contains__»
    wp_walk
    refine ⟨plainId_quiet plain_contains_loop _, codeAny_builtin entry_contains_loop ?_⟩
    rw [Around.under_plainId plain_contains_loop _]
    exact one_loop (R := wants (fun v s' => ∃ k, v = .bool k ∧ ∀ tk', Q (.bool k) { s' with toks := tk' }) E) hl h0 (fun tk => wpAny_mono (he tk) (fun k s' hk => ⟨hk.1, fun tk' => ⟨k, rfl, hk.2⟩⟩) fun _ _ e => e)
  · obtain ⟨k, rfl, hq⟩ := hv
    exact wpAny_truthy_bool (wpAny_pure (hq _))
end
end MyG
namespace MyG
open PySem PySem.Spec PyProof.Rows L2 Evl
/-- x in [o]: o's own __eq__ is asked -/
def rInI (C : Addr) (sp : Sp) (E : XK) : R2 := fun x y H Q => ∃ a o p dx fs dy gs, x = .ref a ∧ y = .ref p ∧ H p = some (.lst [.ref o]) ∧ H a = some (.ins C dx fs) ∧ H o = some (.ins C dy gs) ∧ o ≠ a ∧
  sp [.ref o, .ref a] H (fun v H' => ∃ k, v = .bl k ∧ H' p = some (.lst [.ref o]) ∧ Q (.bl k) H') E
section
variable {X : Cx} {pins : List (Addr × Obj)} {σ : L2.St} {H : Hp} {s : Shared} {C f : Addr} {fd : FuncData} {ps : List Str} {n : Nat} {sp : Sp} {CX : CXT} {E : XK}
theorem op_inI (c : EqC X.K C f) (F : FnOk X.prog X.w X.K X.mg X.base CX n f fd ps sp) (room : Room (n + 1) X.A) (hb : Binds X.K fd ps []) (hx : Passes CX X E) : OpR X (compareOp .In) (rInI C sp E) := by
  intro pins s σ H x y v u Q I rx ry h
  obtain ⟨a, o, p, dx, fs, dy, gs, rfl, rfl, hp, ha, ho, hne, hs⟩ := h
  cases rx
  cases ry
  obtain ⟨_, us, k, rr, e⟩ := I.hok p _ hp
  obtain ⟨u0, rfl, h0⟩ : ∃ u0, us = [u0] ∧ u0 = Value.ref o := by
    cases rr with
    | cons r t =>
      cases t
      cases r
      exact ⟨_, rfl, rfl⟩
  subst h0
  refine contains_one (items := _) e (u := .ref o) rfl (fun tk => ?_)
  have I' := I.tok tk
  obtain ⟨mB, J, _⟩ := ins_get I'.hok ho
  obtain ⟨od, J, _⟩ := J.look
  obtain ⟨mA, J2, _⟩ := ins_get I'.hok ha
  obtain ⟨od2, J2, _⟩ := J2.look
  obtain ⟨m, hF⟩ := I'.fr
  refine GQ.eqBool_refG hne ?_
  refine PySem.W.cmp_K (op := .Eq) (tb := .ref C) room.in1.units0 hF I'.ok.mod.kin J J2.type (by simp [PySem.W.notFirst]) c.he c.hf ?_
  refine wpAny_mono (run_eq F room.in1 rfl hb hx I' (y := .ref a) (show RelV (V.ref a) (Value.ref a) from rfl) hs) (fun w s' hw => ?_) fun _ _ e => e
  obtain ⟨z, H', I'', rz, k, rfl, hl, hq⟩ := hw
  cases rz
  obtain ⟨_, vs, m', rr', e'⟩ := I''.hok p _ hl
  refine ⟨k, rfl, ⟨_, _, e', ?_⟩, fun tk' => ⟨.bl k, H', I''.tok tk', rfl, hq⟩⟩
  cases rr' with
  | cons r t =>
    cases t
    rfl
end
end MyG

set_option maxHeartbeats 2000000
/-! isinstance of an own class, data alike, lists cut. -/
namespace MyG
open PySem PySem.Spec PyProof.Rows L2 Evl
/-- what isinstance asks of a class -/
structure IsiC (K : PySem.W.Frag) (C : Addr) : Prop where
  ca : PySem.W.findIn K (.ref C) "__class__" = some (some (.builtin "object.__class__"))
  cn : PySem.W.specialIn K (.builtin "object.__class__") "__get__" = some (some (.builtin "getset_descriptor.__get__"))
  ct : PySem.W.takesIn K (.builtin "object.__class__") = some true
  cm : PySem.W.mroIn K C (.type "object") = some true
  ko : ∀ T ∈ kinds7, PySem.W.kitOne K (.type T) (.ref C) = some false
theorem all7 {P : String → Prop} (h1 : P "NoneType") (h2 : P "bool") (h3 : P "int") (h4 : P "str") (h5 : P "list") (h6 : P "tuple") (h7 : P "dict") : ∀ T ∈ kinds7, P T := by
  intro T h
  simp only [kinds7, List.mem_cons, List.not_mem_nil, or_false] at h
  rcases h with rfl | rfl | rfl | rfl | rfl | rfl | rfl <;> assumption
theorem kit_self {K : PySem.W.Frag} {C : Addr} : PySem.W.kitOne K (.ref C) (.ref C) = some true := by
  unfold PySem.W.kitOne
  rw [if_pos (beq_self_eq_true _)]
theorem isi_ins {K : PySem.W.Frag} {H : Hp} {C a dx : Addr} {fs : List (Str × V)} {Q : VK} (q : IsiC K C) (cl : Cls K C) (h : H a = some (.ins C dx fs)) (k : Q (.bl true) H) : rIsi K [.ref a, .ref C] H Q :=
  ⟨.ref a, .ref C, .ref C, .ref C, true, rfl, .own C, .base (.ins h cl q.ca q.cn q.ct q.cm), kit_self, k⟩
theorem isi_no {K : PySem.W.Frag} {H : Hp} {C : Addr} {x : V} {t : String} {Q : VK} (q : IsiC K C) (h : AnyT H x t) (k : Q (.bl false) H) : rIsi K [x, .ref C] H Q :=
  ⟨x, .ref C, .type t, .ref C, false, rfl, .own C, h.ty, q.ko t h.mem, k⟩
theorem revLK {X : Cx} {K : PySem.W.Frag} {e : Expr} {te : TE} {k : Nat} {p1 p2 p3 pos : Pos} (h : X.K = K) (he : PE X e te) : PE X (.Subscript e (.Slice none none (some (.UnaryOp .USub (.Constant (.int 1) k p1) p2)) p3) pos) (tRevL K te) := by subst h; exact pe_revL he
/-! ### data alike -/
theorem eqv_int (a b : Int) : PyData.eqv (.int a) (.int b) = decide (a = b) := by
  unfold PyData.eqv
  first | rfl | simp
theorem eqvAll_ints : ∀ ns ms : List Int, PyData.eqvAll (ns.map PyData.int) (ms.map PyData.int) = decide (ns = ms)
  | [], [] => by simp [PyData.eqvAll]
  | [], m :: ms => by simp [PyData.eqvAll]
  | n :: ns, [] => by simp [PyData.eqvAll]
  | n :: ns, m :: ms => by
    simp only [List.map_cons, PyData.eqvAll, eqvAll_ints ns ms, eqv_int]
    by_cases h : n = m <;> simp [h]
theorem eqv_ints (ns ms : List Int) : PyData.eqv (.list (ns.map PyData.int)) (.list (ms.map PyData.int)) = decide (ns = ms) := by
  rw [← eqvAll_ints]
  simp only [PyData.eqv]
end MyG

set_option maxHeartbeats 2000000
/-! More values that are known: len, list, sorted, repr, lists put together. -/
namespace MyG
open PySem PySem.Spec PyProof.Rows L2 Evl
section
variable {K : PySem.W.Frag} {σ : L2.St} {H : Hp} {ta tb te : TE}
theorem ev_lenQ {p : Addr} {xs : List V} (ha : Ev te σ H (.ref p)) (h : H p = some (.lst xs)) : Ev (tCB (rLenQ K) (tCons te tNil)) σ H (.int (xs.length : Int)) := fun H1 e Q q =>
  ha H1 e _ fun H2 e2 => ⟨p, xs, rfl, .inl (SqL.of ((e.trans e2) _ _ h)), q H2 e2⟩
theorem el_cat {a : Addr} {xs zs : List V} (h1 : Ev ta σ H (.ref a)) (ha : H a = some (.lst xs)) (h2 : ∀ H1, Ex H H1 → EvL tb σ H1 zs) (hl : xs.length + zs.length ≤ 1000) : EvL (tOp rCat ta tb) σ H (xs ++ zs) := fun H1 e Q q =>
  h1 H1 e _ fun H2 e2 => h2 H2 (e.trans e2) H2 (Ex.refl _) _ fun p H3 hp e3 h3 => ⟨a, p, xs, zs, rfl, rfl, e3 _ _ (e2 _ _ (e _ _ ha)), h3, Nat.le_of_lt (small1000 hl), fun t ht => q t _ (fresh_back (e2.trans e3) ht) ((e2.trans e3).trans (Ex.new ht)) upd_same⟩
theorem un_tup {as : TA} {Q : VK} (h : as σ H fun xs H1 => xs.length ≤ sizeLine ∧ ∀ p, H1 p = none → Q (.ref p) (upd H1 p (.tup xs))) : tTup as σ H Q := h
theorem el_listQ {p : Addr} {xs : List V} (ha : Ev te σ H (.ref p)) (h : H p = some (.lst xs)) : EvL (tCB (rListQ K) (tCons te tNil)) σ H xs := fun H1 e Q q =>
  ha H1 e _ fun H2 e2 => ⟨p, xs, rfl, .inl (SqL.of ((e.trans e2) _ _ h)), fun l hl => q l _ (fresh_back e2 hl) (e2.trans (Ex.new hl)) upd_same⟩
theorem el_revL {p : Addr} {xs : List V} (ha : Ev te σ H (.ref p)) (h : H p = some (.lst xs)) : EvL (tRevL K te) σ H xs.reverse := fun H1 e Q q =>
  ha H1 e _ fun H2 e2 => ⟨p, xs, rfl, SqL.of ((e.trans e2) _ _ h), fun l hl => q l _ (fresh_back e2 hl) (e2.trans (Ex.new hl)) upd_same⟩
theorem el_sorted {p : Addr} {ns qs : List Int} (ha : Ev te σ H (.ref p)) (h : H p = some (.lst (ns.map V.int))) (hl : ns.length < 64) (pm : qs.Perm ns) (so : qs.Pairwise (· ≤ ·)) : EvL (tCB (rSorted K) (tCons te tNil)) σ H (qs.map V.int) := fun H1 e Q q =>
  ha H1 e _ fun H2 e2 => ⟨p, ns, rfl, SqL.of ((e.trans e2) _ _ h), hl, fun ns' l pm' so' hl' => by
    obtain rfl : ns' = qs := PySem.W.ksm_same (pm'.trans pm.symm) so' so
    exact q l _ (fresh_back e2 hl') (e2.trans (Ex.new hl')) upd_same⟩
theorem ev_reprL {xs : List V} {ds : List PyData} {k L : Nat} (ha : EvL te σ H xs) (hd : ∀ H1, Ex H H1 → DpAll K H1 xs ds) (s : Small (.list ds) k L) (hk : k ≤ 40 := by decide) (hL : L ≤ 16000000 := by decide) : Ev (tCB (rReprD K) (tCons te tNil)) σ H (.str (PyData.shown (.list ds))) := fun H1 e Q q =>
  ha H1 e _ fun p H2 hp e2 h2 => ⟨.ref p, .list ds, rfl, .lst (SqL.of h2) (hd H2 (e.trans e2)), s.sh, s.nd, Nat.le_trans s.dp hk, Nat.le_trans (Nat.le_trans s.ln hL) (by rw [sizeLine_eq]; decide), q H2 e2⟩
theorem ev_repr {x : V} {d : PyData} {k L : Nat} (ha : Ev te σ H x) (hd : ∀ H1, Ex H H1 → Dp K H1 x d) (s : Small d k L) (hk : k ≤ 40 := by decide) (hL : L ≤ 16000000 := by decide) : Ev (tCB (rReprD K) (tCons te tNil)) σ H (.str (PyData.shown d)) := fun H1 e Q q =>
  ha H1 e _ fun H2 e2 => ⟨x, d, rfl, hd H2 (e.trans e2), s.sh, s.nd, Nat.le_trans s.dp hk, Nat.le_trans (Nat.le_trans s.ln hL) (by rw [sizeLine_eq]; decide), q H2 e2⟩
theorem dp_bls {H : Hp} : ∀ bs : List Bool, DpAll K H (bs.map V.bl) (bs.map PyData.bool)
  | [] => .nil
  | b :: bs => .cons (.bl b) (dp_bls bs)
end
theorem cut_lo (xs : List V) {k : Nat} (h : k ≤ xs.length) : cutV xs none (some (k : Int)) = xs.take k := by
  unfold cutV
  rw [HT.sIx_none, HT.sIx_nat, List.drop_zero]
  congr 1
  omega
theorem cut_hi (xs : List V) {k : Nat} (h : k ≤ xs.length) : cutV xs (some (k : Int)) none = xs.drop k := by
  unfold cutV
  rw [HT.sIx_none, HT.sIx_nat, show min k xs.length = k by omega]
  rw [List.take_of_length_le (by rw [List.length_drop]; omega)]
theorem small_bool (b : Bool) : Small (.bool b) 0 10 := by
  refine ⟨rfl, rfl, Nat.le_refl _, ?_, rfl⟩
  cases b <;> decide +kernel
theorem small_bools {bs : List Bool} {N : Nat} (hl : bs.length ≤ N) : Small (.list (bs.map PyData.bool)) 1 (N * 12 + 3) := by
  have h := small_list (k := 0) (L := 10) (ds := bs.map PyData.bool) (fun d hd => by
    obtain ⟨x, _, rfl⟩ := List.mem_map.mp hd
    exact small_bool x)
  refine h.mono (Nat.le_refl _) ?_
  rw [List.length_map]
  have := Nat.mul_le_mul_right 12 hl
  omega
end MyG

set_option maxHeartbeats 2000000
namespace K04
open PySem PySem.Spec PyProof.Rows L2 Evl MyG
/-! ### the text by places -/
def top (i : Nat) : Stmt := PySem.Challenge.pw_ringless_k04_nets_alike.main.body.getD i (.Pass ⟨0, 0, 0, 0⟩)
abbrev s_l_state : Stmt := (top 18)
abbrev n_l_state : List Str := ["_law_script", "_law_cells", "_law_cell"]
theorem sc_l_state : FnScope ["_law_script", "_law_cells", "_law_cell"] ["_law_script"] (defScope s_l_state) := ⟨rfl, rfl, rfl, by decide +kernel, rfl, by decide +kernel, by decide +kernel⟩
abbrev s_l_draw : Stmt := (top 19)
abbrev n_l_draw : List Str := ["_law_state_here", "_law_many", "_law_at", "_law_cell"]
theorem sc_l_draw : FnScope ["_law_state_here", "_law_many", "_law_at", "_law_cell"] ["_law_state_here", "_law_many"] (defScope s_l_draw) := ⟨rfl, rfl, rfl, by decide +kernel, rfl, by decide +kernel, by decide +kernel⟩
abbrev s_l_places : Stmt := (top 20)
abbrev n_l_places : List Str := ["_law_state_here", "_law_found", "_law_turn", "_law_way", "_law_one"]
theorem sc_l_places : FnScope ["_law_state_here", "_law_found", "_law_turn", "_law_way", "_law_one"] ["_law_state_here"] (defScope s_l_places) := ⟨rfl, rfl, rfl, by decide +kernel, rfl, by decide +kernel, by decide +kernel⟩
abbrev s_l_roads : Stmt := (top 21)
abbrev n_l_roads : List Str := ["_law_state_here", "_law_places_here", "_law_found", "_law_turn", "_law_left", "_law_one", "_law_other_here"]
theorem sc_l_roads : FnScope ["_law_state_here", "_law_places_here", "_law_found", "_law_turn", "_law_left", "_law_one", "_law_other_here"] ["_law_state_here", "_law_places_here"] (defScope s_l_roads) := ⟨rfl, rfl, rfl, by decide +kernel, rfl, by decide +kernel, by decide +kernel⟩
abbrev s_l_other : Stmt := (top 22)
abbrev n_l_other : List Str := ["_law_state_here", "_law_places_here", "_law_roads_here", "_law_way", "_law_at", "_law_left", "_law_some", "_law_one", "_law_two", "_law_toll"]
theorem sc_l_other : FnScope ["_law_state_here", "_law_places_here", "_law_roads_here", "_law_way", "_law_at", "_law_left", "_law_some", "_law_one", "_law_two", "_law_toll"] ["_law_state_here", "_law_places_here", "_law_roads_here"] (defScope s_l_other) := ⟨rfl, rfl, rfl, by decide +kernel, rfl, by decide +kernel, by decide +kernel⟩
abbrev s_is_number : Stmt := (top 12)
abbrev n_is_number : List Str := ["thing"]
theorem sc_is_number : FnScope ["thing"] ["thing"] (defScope s_is_number) := ⟨rfl, rfl, rfl, by decide +kernel, rfl, by decide +kernel, by decide +kernel⟩
abbrev s__are_halls : Stmt := (top 13)
abbrev n__are_halls : List Str := ["things", "thing"]
theorem sc__are_halls : FnScope ["things", "thing"] ["things"] (defScope s__are_halls) := ⟨rfl, rfl, rfl, by decide +kernel, rfl, by decide +kernel, by decide +kernel⟩
abbrev s__is_link : Stmt := (top 14)
abbrev n__is_link : List Str := ["thing", "halls", "one", "other", "cost", "part"]
theorem sc__is_link : FnScope ["thing", "halls", "one", "other", "cost", "part"] ["thing", "halls"] (defScope s__is_link) := ⟨rfl, rfl, rfl, by decide +kernel, rfl, by decide +kernel, by decide +kernel⟩
abbrev s__are_links : Stmt := (top 15)
abbrev n__are_links : List Str := ["things", "halls", "thing"]
theorem sc__are_links : FnScope ["things", "halls", "thing"] ["things", "halls"] (defScope s__are_links) := ⟨rfl, rfl, rfl, by decide +kernel, rfl, by decide +kernel, by decide +kernel⟩
abbrev s_Net___init__ : Stmt := (inClass (top 16) 0)
abbrev n_Net___init__ : List Str := ["self", "halls", "links"]
theorem sc_Net___init__ : FnScope ["self", "halls", "links"] ["self", "halls", "links"] (defScope s_Net___init__) := ⟨rfl, rfl, rfl, by decide +kernel, rfl, by decide +kernel, by decide +kernel⟩
abbrev s_Net___eq__ : Stmt := (inClass (top 16) 1)
abbrev n_Net___eq__ : List Str := ["self", "other"]
theorem sc_Net___eq__ : FnScope ["self", "other"] ["self", "other"] (defScope s_Net___eq__) := ⟨rfl, rfl, rfl, by decide +kernel, rfl, by decide +kernel, by decide +kernel⟩
abbrev s_law : Stmt := (top 23)
abbrev n_law : List Str := ["_law_script", "_law_state_here", "_law_turn", "_law_places_here", "_law_roads_here", "_law_some", "_law_rows", "_law_one", "_law_other_here", "_law_again", "_law_same", "_law_found", "_law_thing"]
theorem sc_law : FnScope ["_law_script", "_law_state_here", "_law_turn", "_law_places_here", "_law_roads_here", "_law_some", "_law_rows", "_law_one", "_law_other_here", "_law_again", "_law_same", "_law_found", "_law_thing"] ["_law_script"] (defScope s_law) := ⟨rfl, rfl, rfl, by decide +kernel, rfl, by decide +kernel, by decide +kernel⟩
structure Tx (K : PySem.W.Frag) (mg : Str → Option Value) where
  c_Net : Addr
  g_Net : mg "Net" = some (.ref c_Net)
  cl_Net : Cls K c_Net
  a_l_state : Addr
  d_l_state : FuncData
  F_l_state : Fun K "_law_state" "_law_state" s_l_state a_l_state d_l_state
  b_l_state : Binds K d_l_state ["_law_script"] []
  g_l_state : mg "_law_state" = some (.ref a_l_state)
  a_l_draw : Addr
  d_l_draw : FuncData
  F_l_draw : Fun K "_law_draw" "_law_draw" s_l_draw a_l_draw d_l_draw
  b_l_draw : Binds K d_l_draw ["_law_state_here", "_law_many"] []
  g_l_draw : mg "_law_draw" = some (.ref a_l_draw)
  a_l_places : Addr
  d_l_places : FuncData
  F_l_places : Fun K "_law_places" "_law_places" s_l_places a_l_places d_l_places
  b_l_places : Binds K d_l_places ["_law_state_here"] []
  g_l_places : mg "_law_places" = some (.ref a_l_places)
  a_l_roads : Addr
  d_l_roads : FuncData
  F_l_roads : Fun K "_law_roads" "_law_roads" s_l_roads a_l_roads d_l_roads
  b_l_roads : Binds K d_l_roads ["_law_state_here", "_law_places_here"] []
  g_l_roads : mg "_law_roads" = some (.ref a_l_roads)
  a_l_other : Addr
  d_l_other : FuncData
  F_l_other : Fun K "_law_other" "_law_other" s_l_other a_l_other d_l_other
  b_l_other : Binds K d_l_other ["_law_state_here", "_law_places_here", "_law_roads_here"] []
  g_l_other : mg "_law_other" = some (.ref a_l_other)
  a_is_number : Addr
  d_is_number : FuncData
  F_is_number : Fun K "is_number" "is_number" s_is_number a_is_number d_is_number
  b_is_number : Binds K d_is_number ["thing"] []
  g_is_number : mg "is_number" = some (.ref a_is_number)
  a__are_halls : Addr
  d__are_halls : FuncData
  F__are_halls : Fun K "_are_halls" "_are_halls" s__are_halls a__are_halls d__are_halls
  b__are_halls : Binds K d__are_halls ["things"] []
  g__are_halls : mg "_are_halls" = some (.ref a__are_halls)
  a__is_link : Addr
  d__is_link : FuncData
  F__is_link : Fun K "_is_link" "_is_link" s__is_link a__is_link d__is_link
  b__is_link : Binds K d__is_link ["thing", "halls"] []
  g__is_link : mg "_is_link" = some (.ref a__is_link)
  a__are_links : Addr
  d__are_links : FuncData
  F__are_links : Fun K "_are_links" "_are_links" s__are_links a__are_links d__are_links
  b__are_links : Binds K d__are_links ["things", "halls"] []
  g__are_links : mg "_are_links" = some (.ref a__are_links)
  a_Net___init__ : Addr
  d_Net___init__ : FuncData
  F_Net___init__ : Fun K "__init__" "Net.__init__" s_Net___init__ a_Net___init__ d_Net___init__
  b_Net___init__ : Binds K d_Net___init__ ["self", "halls", "links"] []
  m_Net : Mk K c_Net a_Net___init__
  a_Net___eq__ : Addr
  d_Net___eq__ : FuncData
  F_Net___eq__ : Fun K "__eq__" "Net.__eq__" s_Net___eq__ a_Net___eq__ d_Net___eq__
  b_Net___eq__ : Binds K d_Net___eq__ ["self", "other"] []
  me_Net___eq__ : Meth K c_Net "__eq__" a_Net___eq__
  a_law : Addr
  d_law : FuncData
  F_law : Fun K "law" "law" s_law a_law d_law
  b_law : Binds K d_law ["_law_script"] []
  g_law : mg "law" = some (.ref a_law)
  e_Net : EqC K c_Net a_Net___eq__
  q_Net : IsiC K c_Net
  n_Net__handed : NoAttr K c_Net "_handed"
  n_Net__rising : NoAttr K c_Net "_rising"
  n_Net__links : NoAttr K c_Net "_links"
  z_abs : mg "abs" = none
  z_len : mg "len" = none
  z_range : mg "range" = none
  z_list : mg "list" = none
  z_repr : mg "repr" = none
  z_sorted : mg "sorted" = none
  z_all : mg "all" = none
  z_isinstance : mg "isinstance" = none
  z_set : mg "set" = none
  z_tuple : mg "tuple" = none
  z_int : mg "int" = none
  z_bool : mg "bool" = none
  z_max : mg "max" = none
  t_MOST_HALLS : Tok
  v_MOST_HALLS : mg "MOST_HALLS" = some (.int (8) t_MOST_HALLS)
  t_MOST_LINKS : Tok
  v_MOST_LINKS : mg "MOST_LINKS" = some (.int (12) t_MOST_LINKS)
  t_LAST_HALL : Tok
  v_LAST_HALL : mg "LAST_HALL" = some (.int (999) t_LAST_HALL)
  t_MOST_COST : Tok
  v_MOST_COST : mg "MOST_COST" = some (.int (30) t_MOST_COST)
end K04

set_option maxHeartbeats 2000000
namespace K04
open PySem PySem.Spec PyProof.Rows L2 Evl MyG
/-! ### the drawing state: a list [cells, place, last] at s, the cells at c -/
structure Sta (s c : Addr) (H : Hp) : Prop where
  ne : s ≠ c
  ex : ∃ (cells : List Int) (i j : Int), H s = some (.lst [.ref c, .int i, .int j]) ∧ H c = some (.lst (cells.map V.int)) ∧ cells ≠ [] ∧ (∀ x ∈ cells, 0 ≤ x) ∧ 0 ≤ i ∧ 0 ≤ j ∧ j < 2147483647
def Off (s c : Addr) (H H' : Hp) : Prop := ∀ a, a ≠ s → a ≠ c → H' a = H a
def sp_state (K : PySem.W.Frag) : Sp := fun vs H Q _ => ∃ (a : Addr) (ns : List Int), vs = [.ref a] ∧ SqL K H a (ns.map V.int) ∧ ns.length ≤ 63 ∧ ∀ s c H', Ex H H' → H s = none → H c = none → Sta s c H' → Q (.ref s) H'
def sp_draw : Sp := fun vs H Q _ => ∃ (s c : Addr) (m : Int), vs = [.ref s, .int m] ∧ Sta s c H ∧ 0 < m ∧ m < 1073741824 ∧ ∀ r H', 0 ≤ r → r < m → Sta s c H' → Off s c H H' → Q (.int r) H'
theorem fmod_bd {a m : Int} (h : 0 < m) : 0 ≤ a.fmod m ∧ a.fmod m < m := ⟨Int.fmod_nonneg_of_pos a h, Int.fmod_lt_of_pos a h⟩
theorem ints_at {ns : List Int} {k : Int} (h0 : 0 ≤ k) (h1 : k < (ns.length : Int)) : ∃ x, ns[k.toNat]? = some x ∧ atI (ns.map V.int) k = some (.int x) ∧ x ∈ ns := by
  have hk : k.toNat < ns.length := by omega
  refine ⟨ns[k.toNat], List.getElem?_eq_getElem hk, ?_, List.getElem_mem hk⟩
  refine at_of (j := k.toNat) (by omega) ?_
  rw [List.getElem?_map, List.getElem?_eq_getElem hk]
  rfl
theorem map_set_int (ns : List Int) (j : Nat) (y : Int) : (ns.map V.int).set j (.int y) = (ns.set j y).map V.int := by
  rw [List.map_set]
theorem mem_set {ns : List Int} {j : Nat} {y : Int} (h : ∀ x ∈ ns, 0 ≤ x) (hy : 0 ≤ y) : ∀ x ∈ ns.set j y, 0 ≤ x := fun x hx => by
  rcases List.mem_or_eq_of_mem_set hx with e | e
  · exact h x e
  · rw [e]; exact hy
section
variable {P : Program} {w : World} {K : PySem.W.Frag} {mg : Str → Option Value} {base : Heap}
theorem ok_draw (T : Tx K mg) : FnOk P w K mg base CX0 1 T.a_l_draw T.d_l_draw ["_law_state_here", "_law_many"] sp_draw := by
  refine T.F_l_draw.ok sc_l_draw (fun vs H Q E h => ?_) (fun cdv A outer s H vs Q E hr h => ?_)
  · obtain ⟨_, _, _, rfl, _⟩ := h
    rfl
  · obtain ⟨s, c, m, rfl, hst, hm0, hm1, q⟩ := h
    refine ⟨_, (pss_cons (ps_set (i := 2) sc_l_draw.nd rfl (Or.inl rfl) (pe_op op_modN (pe_ix (ix_listK (K := K) rfl) (pv 0) pe_int (fun _ _ => rfl)) (pe_callB (lenK (K := K) rfl) (by rfl) T.z_len (by decide +kernel) (pa_cons (pe_ix (ix_listK (K := K) rfl) (pv 0) pe_int (fun _ _ => rfl)) pa_nil))))
  (pss_cons (ps_set (i := 3) sc_l_draw.nd rfl (Or.inl rfl) (pe_ix (ix_listK (K := K) rfl) (pe_ix (ix_listK (K := K) rfl) (pv 0) pe_int (fun _ _ => rfl)) (pv 2) (fun _ _ => rfl)))
  (pss_cons (ps_if (pt_cmpR op_ge (pv 3) (pe_op op_pow pe_int pe_int) (nomark _)) (pss_cons (ps_asg (pe_op op_fdivN (pv 3) (pv 1)) (pg_sub (pe_ix (ix_listK (K := K) rfl) (pv 0) pe_int (fun _ _ => rfl)) (pv 2) set_list))
  (pss_one (ps_ret (pe_op op_modN (pv 3) (pv 1))))) pss_nil)
  (pss_cons (ps_asg (pe_op op_add (pe_ix (ix_listK (K := K) rfl) (pv 0) pe_int (fun _ _ => rfl)) pe_int) (pg_sub (pv 0) pe_int set_list))
  (pss_cons (ps_asg (pe_op op_modN (pe_op op_add (pe_op op_add (pe_op op_mul (pe_ix (ix_listK (K := K) rfl) (pv 0) pe_int (fun _ _ => rfl)) pe_int) (pv 3)) pe_int) pe_int) (pg_sub (pv 0) pe_int set_list))
  (pss_one (ps_ret (pe_op op_modN (pe_op op_fdivN (pe_op op_modN (pe_op op_mul (pe_ix (ix_listK (K := K) rfl) (pv 0) pe_int (fun _ _ => rfl)) (pe_ix (ix_listK (K := K) rfl) (pv 0) pe_int (fun _ _ => rfl))) pe_int) pe_int) (pv 1))))))))), ?_⟩
    obtain ⟨nsc, cells, i, j, hs, hc, hne, hpos, hi, hj0, hj1⟩ := hst
    have hlen : 0 < (cells.length : Int) := by
      have := List.length_pos_iff.mpr hne
      omega
    -- at = state[1] % len(state[0])
    refine ⟨_, rfl, s, _, 1, _, rfl, rfl, SqL.of hs, atI_nat (j := 1) rfl, _, rfl, s, _, 0, _, rfl, rfl, SqL.of hs, atI_nat (j := 0) rfl, c, _, rfl, .inl (SqL.of hc), _, _, rfl, rfl, ?_, ?_⟩
    · rw [List.length_map]; omega
    rw [List.length_map]
    have hat := fmod_bd (a := i) hlen
    generalize hdef : i.fmod (cells.length : Int) = at_ at hat
    obtain ⟨x, hx, hxa, hxm⟩ := ints_at hat.1 hat.2
    have hx0 := hpos x hxm
    -- cell = state[0][at]
    refine ⟨_, rfl, s, _, 0, _, rfl, rfl, SqL.of hs, atI_nat (j := 0) rfl, _, rfl, c, _, at_, _, rfl, congrArg V.int hdef, SqL.of hc, hxa, ?_⟩
    -- if cell >= 10 ** 18
    refine ⟨_, rfl, 10, 18, rfl, rfl, ⟨by decide, by decide, by decide⟩, x, _, rfl, rfl, _, rfl, ite2 (fun _ => ?_) (fun _ => ?_)⟩
    · -- state[0][at] = cell // many
      refine ⟨_, rfl, _, rfl, x, m, rfl, rfl, ⟨by omega, by omega⟩, _, rfl, s, _, 0, _, rfl, rfl, SqL.of hs, atI_nat (j := 0) rfl, _, rfl, c, _, at_, at_.toNat, rfl, congrArg V.int hdef, hc, ?_, ?_⟩
      · have e : at_ = (at_.toNat : Int) := by omega
        rw [e]
        exact Evl.ixN_nat (by rw [List.length_map]; omega)
      refine ⟨_, rfl, _, rfl, x, m, rfl, rfl, by omega, ?_⟩
      have hb := fmod_bd (a := x) hm0
      refine q _ _ hb.1 hb.2 ⟨nsc, cells.set at_.toNat (x.fdiv m), i, j, ?_, ?_, ?_, ?_, hi, hj0, hj1⟩ (fun a ha hac => upd_ne hac)
      · rw [upd_ne nsc]; exact hs
      · rw [upd_same, map_set_int]
      · exact fun z => hne (by simpa using z)
      · refine mem_set hpos ?_
        rw [Int.fdiv_eq_ediv_of_nonneg _ (by omega)]
        exact Int.ediv_nonneg hx0 (by omega)
    · -- state[1] = state[1] + 1
      refine ⟨_, rfl, s, _, 1, _, rfl, rfl, SqL.of hs, atI_nat (j := 1) rfl, _, _, rfl, rfl, _, rfl, s, _, 1, 1, rfl, rfl, hs, Evl.ixN_nat (j := 1) (by show 1 < 3; decide), ?_⟩
      have hs1 : (upd H s (.lst ([V.ref c, .int i, .int j].set 1 (.int (i + 1))))) s = some (.lst [.ref c, .int (i + 1), .int j]) := upd_same
      -- state[2] = ..
      refine ⟨_, rfl, s, _, 2, _, rfl, rfl, SqL.of hs1, atI_nat (j := 2) rfl, _, _, rfl, rfl, .inl ⟨by omega, by omega⟩, _, rfl, _, _, rfl, rfl, _, _, rfl, rfl, _, _, rfl, rfl, (by show (2147483647 : Int) ≠ 0; decide), _, rfl, s, _, 2, 2, rfl, rfl, hs1, Evl.ixN_nat (j := 2) (by show 2 < 3; decide), ?_⟩
      have hb := fmod_bd (a := j * 48271 + x + 12345) (m := 2147483647) (by decide)
      generalize hdj : (j * 48271 + x + 12345).fmod 2147483647 = j' at hb
      have hs2 : (upd (upd H s (.lst ([V.ref c, .int i, .int j].set 1 (.int (i + 1))))) s (.lst ([V.ref c, .int (i + 1), .int j].set 2 (.int ((j * 48271 + x + 12345).fmod 2147483647))))) s = some (.lst [.ref c, .int (i + 1), .int j']) := by
        rw [upd_same, hdj]
        rfl
      -- return ..
      refine ⟨_, rfl, s, _, 2, _, rfl, rfl, SqL.of hs2, atI_nat (j := 2) rfl, _, rfl, s, _, 2, _, rfl, rfl, SqL.of hs2, atI_nat (j := 2) rfl, _, _, rfl, rfl, .inl ⟨by omega, by omega⟩, _, _, rfl, rfl, (by show (2147483629 : Int) ≠ 0; decide), _, _, rfl, rfl, ⟨by show (16 : Int) ≠ 0; decide, by show (16 : Int).natAbs < 1073741824; decide⟩, _, rfl, _, _, rfl, rfl, by omega, ?_⟩
      have hb2 := fmod_bd (a := ((j' * j').fmod 2147483629).fdiv 16) hm0
      refine q _ _ hb2.1 hb2.2 ⟨nsc, cells, i + 1, j', hs2, ?_, hne, hpos, by omega, hb.1, hb.2⟩ (fun a ha hac => ?_)
      · rw [upd_ne nsc.symm, upd_ne nsc.symm]; exact hc
      · rw [upd_ne ha, upd_ne ha]
end
end K04

set_option maxHeartbeats 2000000
namespace K04
open PySem PySem.Spec PyProof.Rows L2 Evl MyG
/-! ### what is known (B) beside the state -/
structure Wd (s c : Addr) (B H : Hp) : Prop where
  ex : Ex B H
  ns : B s = none
  nc : B c = none
  st : Sta s c H
theorem Sta.ext {s c : Addr} {H H' : Hp} (h : Sta s c H) (e : Ex H H') : Sta s c H' :=
  ⟨h.ne, let ⟨cells, i, j, h1, h2, r⟩ := h.ex; ⟨cells, i, j, e _ _ h1, e _ _ h2, r⟩⟩
theorem Sta.s_some {s c : Addr} {H : Hp} (h : Sta s c H) : ∃ o, H s = some o := let ⟨_, _, _, h1, _⟩ := h.ex; ⟨_, h1⟩
theorem Sta.c_some {s c : Addr} {H : Hp} (h : Sta s c H) : ∃ o, H c = some o := let ⟨_, _, _, _, h2, _⟩ := h.ex; ⟨_, h2⟩
theorem Sta.ne_s {s c p : Addr} {H : Hp} (h : Sta s c H) (hp : H p = none) : p ≠ s := fun e => by
  obtain ⟨o, z⟩ := h.s_some
  rw [e, z] at hp
  cases hp
theorem Sta.ne_c {s c p : Addr} {H : Hp} (h : Sta s c H) (hp : H p = none) : p ≠ c := fun e => by
  obtain ⟨o, z⟩ := h.c_some
  rw [e, z] at hp
  cases hp
theorem Sta.upd {s c p : Addr} {H : Hp} {o : HO} (h : Sta s c H) (hs : p ≠ s) (hc : p ≠ c) : Sta s c (upd H p o) :=
  ⟨h.ne, let ⟨cells, i, j, h1, h2, r⟩ := h.ex; ⟨cells, i, j, by rw [upd_ne hs.symm]; exact h1, by rw [upd_ne hc.symm]; exact h2, r⟩⟩
section
variable {s c p : Addr} {B H H' : Hp} {o : HO}
theorem Wd.off (h : Wd s c B H) (st : Sta s c H') (f : Off s c H H') : Wd s c B H' := ⟨fun a u e => by
  rw [f a (fun z => by rw [z, h.ns] at e; cases e) (fun z => by rw [z, h.nc] at e; cases e)]
  exact h.ex a u e, h.ns, h.nc, st⟩
theorem Wd.ext (h : Wd s c B H) (e : Ex H H') : Wd s c B H' := ⟨h.ex.trans e, h.ns, h.nc, h.st.ext e⟩
theorem Wd.mut (h : Wd s c B H) (hp : B p = none) (hs : p ≠ s) (hc : p ≠ c) : Wd s c B (upd H p o) := ⟨h.ex.mut hp, h.ns, h.nc, h.st.upd hs hc⟩
theorem Wd.know (h : Wd s c B H) (hp : H p = some o) (hs : p ≠ s) (hc : p ≠ c) : Wd s c (upd B p o) H := ⟨fun a u e => by
  by_cases z : a = p
  · rw [z, upd_same] at e
    rw [z, ← e]
    exact hp
  · rw [upd_ne z] at e
    exact h.ex a u e, by rw [upd_ne hs.symm]; exact h.ns, by rw [upd_ne hc.symm]; exact h.nc, h.st⟩
theorem Wd.none_of (h : Wd s c B H) (hp : H p = none) : B p = none := fresh_back h.ex hp
theorem ex_know (hp : B p = none) : Ex B (upd B p o) := Ex.new hp
end
/-! ### comprehensions that map -/
theorem given_all (ys : List V) : given ys.length (fun _ => true) (fun i => ys.getD i .non) = ys := by
  unfold given
  rw [List.filter_eq_self.mpr (fun _ _ => rfl)]
  refine List.ext_getElem (by simp) (fun i h1 h2 => ?_)
  rw [List.getElem_map, List.getElem_range, List.getD_eq_getElem?_getD, List.getElem?_eq_getElem h2]
  rfl
theorem et_yes {σ : L2.St} {H : Hp} : EvT tYes σ H true := fun H1 _ _ q => q H1 (Ex.refl H1)
theorem el_map {K : PySem.W.Frag} {σ : L2.St} {H : Hp} {te : TE} {a : Addr} {xs ys : List V} {tl : TE} {j : Nat} {vs : List Nat} (h : Ev tl σ H (.ref a)) (hx : SqL K H a xs) (hz : xs.length ≤ 40000) (hl : ys.length = xs.length)
    (hw : ∀ x, wipe ((wipe σ vs).set j (some x)) vs = wipe σ vs) (he : ∀ (i : Nat) (x y : V) H1, Ex H H1 → xs[i]? = some x → ys[i]? = some y → Ev te ((wipe σ vs).set j (some x)) H1 y) : EvL (tLc (iList K tl) (gName j) tYes te vs) σ H ys := by
  have k := el_lcL (K := K) (t := tYes) (te := te) (fun _ => true) (fun i => ys.getD i .non) h hx hz hw (fun i x H1 e hi => et_yes) (fun i x H1 e hi _ => by
    have h1 := (List.getElem?_eq_some_iff.mp hi).1
    have h2 : i < ys.length := by omega
    rw [show ys.getD i .non = ys[i] by rw [List.getD_eq_getElem?_getD, List.getElem?_eq_getElem h2]; rfl]
    exact he i x _ H1 e hi (List.getElem?_eq_getElem h2))
  rw [← hl, given_all] at k
  exact k
theorem go_L {te : TE} {σ : L2.St} {H : Hp} {xs : List V} {Q : VK} (h : EvL te σ H xs) (k : ∀ p H1, H p = none → Ex H H1 → H1 p = some (.lst xs) → Q (.ref p) H1) : te σ H Q := h H (Ex.refl H) Q k
theorem go_V {te : TE} {σ : L2.St} {H : Hp} {v : V} {Q : VK} (h : Ev te σ H v) (k : ∀ H1, Ex H H1 → Q v H1) : te σ H Q := h H (Ex.refl H) Q k
/-! ### the first state -/
section
variable {P : Program} {w : World} {K : PySem.W.Frag} {mg : Str → Option Value} {base : Heap}
theorem ok_state (T : Tx K mg) : FnOk P w K mg base CX0 1 T.a_l_state T.d_l_state ["_law_script"] (sp_state K) := by
  refine T.F_l_state.ok sc_l_state (fun vs H Q E h => ?_) (fun cdv A outer s H vs Q E hr h => ?_)
  · obtain ⟨_, _, rfl, _⟩ := h
    rfl
  · obtain ⟨a, ns, rfl, hS, hlen, q⟩ := h
    refine ⟨_, (pss_cons (ps_setLc (i := 1) (own := [("_law_cell", 2)]) (g := (gName 2)) (tt := tYes) rfl sc_l_state.nd rfl rfl (sw_true rfl rfl rfl (by decide +kernel)) (iListK (K := K) rfl (pv 0)) (blkOk_by (N := n_l_state) (sc := defScope s_l_state) (by decide +kernel)) (fun _ _ _ _ _ => (pg_name (i := 2) sc_l_state.nd rfl (Or.inl rfl))) (fun _ _ _ _ _ => pts_nil) (fun _ _ _ _ _ => (pe_callB call_abs (by rfl) T.z_abs (by decide +kernel) (pa_cons (pv 2) pa_nil))))
  (pss_cons (ps_if (pt_cmpR (op_eqK (K := K) rfl hr.units) (pv 1) (pe_lst pa_nil) (nomark _)) (pss_one (ps_set (i := 1) sc_l_state.nd rfl (Or.inl rfl) (pe_lst (pa_cons pe_int pa_nil)))) pss_nil)
  (pss_one (ps_ret (pe_lst (pa_cons (pv 1) (pa_cons pe_int (pa_cons pe_int pa_nil)))))))), ?_⟩
    -- the cells
    refine q_asgL (xs := (ns.map fun i => if i < 0 then -i else i).map V.int) (el_map (xs := ns.map V.int) (a := a) (ev_var rfl) hS (by rw [List.length_map]; omega) (by simp) (fun x => rfl) (fun i x y H1 e hx hy => ?_)) (fun c H1 hc e1 h1 => ?_)
    · rw [List.getElem?_map] at hx hy
      rw [List.getElem?_map] at hy
      cases hi : ns[i]? with
      | none =>
        rw [hi] at hx
        cases hx
      | some z =>
        rw [hi] at hx hy
        obtain rfl := Option.some.inj hx
        obtain rfl := Option.some.inj hy
        exact fun H2 e2 Q q => ⟨_, rfl, z, rfl, q _ (Ex.refl _)⟩
    generalize hg : ns.map (fun i => if i < 0 then -i else i) = cells at h1
    have pos : ∀ x ∈ cells, 0 ≤ x := fun x hx => by
      rw [← hg] at hx
      obtain ⟨y, _, rfl⟩ := List.mem_map.mp hx
      split <;> omega
    -- if cells == []
    refine ⟨_, rfl, by show 0 ≤ sizeLine; exact Nat.zero_le _, fun p hp => ?_⟩
    have cl : PyData.canLay0 (.list (cells.map PyData.int)) = true := by
      simp only [PyData.canLay0]
      clear hg pos h1
      induction cells with
      | nil => rfl
      | cons x r ih => simp only [List.map_cons, PyData.canLayAll0, PyData.canLay0, ih, Bool.and_self]
    have dpt : PyData.depth (.list (cells.map PyData.int)) ≤ 64 := by
      simp only [PyData.depth]
      have : PyData.depthAll (cells.map PyData.int) = 0 := by
        clear hg pos h1 cl
        induction cells with
        | nil => rfl
        | cons x r ih => simp only [List.map_cons, PyData.depthAll, PyData.depth, ih]; rfl
      omega
    refine ⟨.list (cells.map PyData.int), .list [], .lst (SqL.of (Ex.new hp _ _ h1)) (dp_ints _), .lst (SqL.of upd_same) .nil, ?_, rfl, _, rfl, ite2 (fun he => ?_) (fun hne => ?_)⟩
    · unfold SeqAt.shaped
      rw [cl, decide_eq_true dpt]
      rfl
    · -- cells = [1]
      refine ⟨by show 1 ≤ sizeLine; decide, fun c2 hc2 => ?_⟩
      refine ⟨_, rfl, by show 3 ≤ sizeLine; decide, fun s hs => ?_⟩
      have n2 : c2 ≠ s := fun z => by rw [← z, upd_same] at hs; cases hs
      have e2 : Ex H1 (upd (upd (upd H1 p (.lst [])) c2 (.lst [.int 1])) s (.lst [.ref c2, .int 0, .int 1])) := ((Ex.new hp).trans (Ex.new hc2)).trans (Ex.new hs)
      refine q s c2 _ (e1.trans e2) (fresh_back (e1.trans ((Ex.new hp).trans (Ex.new hc2))) hs) (fresh_back (e1.trans (Ex.new hp)) hc2) ⟨n2.symm, [1], 0, 1, upd_same, ?_, by decide, by decide, by decide, by decide, by decide⟩
      rw [upd_ne n2, upd_same]
      rfl
    · refine ⟨_, rfl, by show 3 ≤ sizeLine; decide, fun s hs => ?_⟩
      have h2 : (upd H1 p (.lst [])) c = some (.lst (cells.map V.int)) := Ex.new hp _ _ h1
      have n2 : c ≠ s := ne_of_none h2 hs
      refine q s c _ ((e1.trans (Ex.new hp)).trans (Ex.new hs)) (fresh_back (e1.trans (Ex.new hp)) hs) hc ⟨n2.symm, cells, 0, 1, upd_same, ?_, ?_, pos, by decide, by decide, by decide⟩
      · rw [upd_ne n2]; exact h2
      · intro z
        subst z
        exact hne rfl
end
end K04

set_option maxHeartbeats 2000000
namespace K04
open PySem PySem.Spec PyProof.Rows L2 Evl MyG
/-! ### places drawn -/
structure Places (ps : List Int) : Prop where
  nd : ps.Nodup
  l0 : 1 ≤ ps.length
  l1 : ps.length ≤ 8
  bd : ∀ x ∈ ps, 0 ≤ x ∧ x ≤ 999
def sp_places : Sp := fun vs H Q _ => ∃ (s c : Addr) (B : Hp), vs = [.ref s] ∧ Wd s c B H ∧ ∀ p ps H', Places ps → H p = none → Wd s c (upd B p (.lst (ps.map V.int))) H' → Q (.ref p) H'
theorem inV_ints (z : Int) : ∀ ns : List Int, inV (.int z) (ns.map V.int) = decide (z ∈ ns)
  | [] => by simp [inV]
  | n :: ns => by
    have ih := inV_ints z ns
    unfold inV at ih ⊢
    rw [List.map_cons, List.any_cons, ih]
    have e : eqV (.int n) (.int z) = decide (n = z) := by first | rfl | simp [eqV]
    rw [e]
    by_cases h : n = z
    · subst h; simp
    · have h' : ¬ z = n := fun q => h q.symm
      simp [h, h']
theorem flat_ints (ns : List Int) : (ns.map V.int).all flatV = true := by
  rw [List.all_eq_true]
  intro x hx
  obtain ⟨n, _, rfl⟩ := List.mem_map.mp hx
  rfl
theorem len8 {n : Nat} (h : n ≤ 1000) : n < sizeLine := small1000 h
theorem nodup_snoc {xs : List Int} {z : Int} (h : xs.Nodup) (hz : ¬ z ∈ xs) : (xs ++ [z]).Nodup := by
  rw [List.nodup_append]
  refine ⟨h, by simp, fun a ha b hb => ?_⟩
  obtain rfl := List.mem_singleton.mp hb
  exact fun e => hz (e ▸ ha)
section
variable {P : Program} {w : World} {K : PySem.W.Frag} {mg : Str → Option Value} {base : Heap}
theorem ok_places (T : Tx K mg) : FnOk P w K mg base CX0 2 T.a_l_places T.d_l_places ["_law_state_here"] sp_places := by
  have G_l_draw := ok_draw (P := P) (w := w) (base := base) T
  refine T.F_l_places.ok sc_l_places (fun vs H Q E h => ?_) (fun cdv A outer s H vs Q E hr h => ?_)
  · obtain ⟨_, _, _, rfl, _⟩ := h
    rfl
  · obtain ⟨s, c, B, rfl, hW, q⟩ := h
    refine ⟨_, (pss_cons (ps_set (i := 1) sc_l_places.nd rfl (Or.inl rfl) (pe_lst pa_nil))
  (pss_cons (ps_for PassesOwn.never rfl (pi_range1 rfl T.z_range (pa_cons (pe_op op_add pe_int (pe_call G_l_draw (hr.mono (by decide)) (by rfl) T.g_l_draw T.F_l_draw.kp T.b_l_draw .nil pass0 (pa_cons (pv 0) (pa_cons pe_int pa_nil)))) pa_nil)) (pg_name (i := 2) sc_l_places.nd rfl (Or.inl rfl))
   (pss_cons (ps_set (i := 3) sc_l_places.nd rfl (Or.inl rfl) (pe_call G_l_draw (hr.mono (by decide)) (by rfl) T.g_l_draw T.F_l_draw.kp T.b_l_draw .nil pass0 (pa_cons (pv 0) (pa_cons pe_int pa_nil))))
  (pss_cons (ps_set (i := 4) sc_l_places.nd rfl (Or.inl rfl) (pe_ix (ix_listK (K := K) rfl) (pe_lst (pa_cons (pe_call G_l_draw (hr.mono (by decide)) (by rfl) T.g_l_draw T.F_l_draw.kp T.b_l_draw .nil pass0 (pa_cons (pv 0) (pa_cons pe_int pa_nil))) (pa_cons (pe_call G_l_draw (hr.mono (by decide)) (by rfl) T.g_l_draw T.F_l_draw.kp T.b_l_draw .nil pass0 (pa_cons (pv 0) (pa_cons pe_int pa_nil))) (pa_cons (pe_op op_sub pe_int (pe_call G_l_draw (hr.mono (by decide)) (by rfl) T.g_l_draw T.F_l_draw.kp T.b_l_draw .nil pass0 (pa_cons (pv 0) (pa_cons pe_int pa_nil)))) (pa_cons (pe_call G_l_draw (hr.mono (by decide)) (by rfl) T.g_l_draw T.F_l_draw.kp T.b_l_draw .nil pass0 (pa_cons (pv 0) (pa_cons pe_int pa_nil))) pa_nil))))) (pv 3) (fun _ _ => rfl)))
  (pss_one (ps_if (pt_cmpR (op_niK (K := K) rfl) (pv 4) (pv 1) (by rfl)) (pss_one (ps_expr (pe_bm PySem.F.plainAttrs_list PySem.F.slot_list_append PySem.F.type_list_append mt_append (pv 1) (pa_cons (pv 4) pa_nil)))) pss_nil)))))
  (pss_one (ps_ret (pv 1))))), ?_⟩
    refine ⟨Nat.zero_le _, fun f hf => ?_⟩
    have hfs := hW.st.ne_s hf
    have hfc := hW.st.ne_c hf
    have hfB := hW.none_of hf
    have hW1 := hW.ext (Ex.new (o := .lst []) hf)
    refine ⟨_, rfl, s, c, 8, rfl, hW1.st, by decide, by decide, fun r H1 r0 r1 st1 off1 => ?_⟩
    have hW2 := hW1.off st1 off1
    refine ⟨1, r, rfl, rfl, 1 + r, rfl, by omega, by omega, for_range (lo := 0) (n := (1 + r).toNat) (fun i σ H' => ∃ (xs : List Int) (y2 y3 y4 : Option V), σ = [some (.ref s), some (.ref f), y2, y3, y4] ∧ Wd s c B H' ∧
      H' f = some (.lst (xs.map V.int)) ∧ xs.Nodup ∧ xs.length ≤ i ∧ (0 < i → 1 ≤ xs.length) ∧ ∀ x ∈ xs, 0 ≤ x ∧ x ≤ 999) ⟨[], _, _, _, rfl, hW2, (off1 f hfs hfc).trans upd_same, List.nodup_nil, Nat.le_refl _, fun z => absurd z (Nat.lt_irrefl _), fun x hx => nomatch hx⟩ ?_ ?_⟩
    · rintro i σ H2 hi ⟨xs, y2, y3, y4, rfl, W2, f2, nd, l0, l1, bd⟩
      -- way
      refine ⟨_, rfl, s, c, 4, rfl, W2.st, by decide, by decide, fun way H3 w0 w1 st3 off3 => ?_⟩
      have W3 := W2.off st3 off3
      have f3 := (off3 f hfs hfc).trans f2
      -- one
      refine ⟨_, rfl, s, c, 12, rfl, W3.st, by decide, by decide, fun a1 H4 a10 a11 st4 off4 => ?_⟩
      have W4 := W3.off st4 off4
      have f4 := (off4 f hfs hfc).trans f3
      refine ⟨_, rfl, s, c, 12, rfl, W4.st, by decide, by decide, fun a2 H5 a20 a21 st5 off5 => ?_⟩
      have W5 := W4.off st5 off5
      have f5 := (off5 f hfs hfc).trans f4
      refine ⟨_, rfl, s, c, 3, rfl, W5.st, by decide, by decide, fun a3 H6 a30 a31 st6 off6 => ?_⟩
      have W6 := W5.off st6 off6
      have f6 := (off6 f hfs hfc).trans f5
      refine ⟨999, a3, rfl, rfl, _, rfl, s, c, 1000, rfl, W6.st, by decide, by decide, fun a4 H7 a40 a41 st7 off7 => ?_⟩
      have W7 := W6.off st7 off7
      have f7 := (off7 f hfs hfc).trans f6
      refine ⟨by show 4 ≤ sizeLine; decide, fun p hp => ?_⟩
      have f8 := Ex.new (o := .lst [V.int a1, .int a2, .int (999 - a3), .int a4]) hp _ _ f7
      have W8 := W7.ext (Ex.new (o := .lst [V.int a1, .int a2, .int (999 - a3), .int a4]) hp)
      obtain ⟨z, hz, z0, z1⟩ : ∃ z, atI [V.int a1, .int a2, .int (999 - a3), .int a4] way = some (.int z) ∧ 0 ≤ z ∧ z ≤ 999 := by
        have : way = 0 ∨ way = 1 ∨ way = 2 ∨ way = 3 := by omega
        rcases this with rfl | rfl | rfl | rfl
        · exact ⟨a1, rfl, by omega, by omega⟩
        · exact ⟨a2, rfl, by omega, by omega⟩
        · exact ⟨999 - a3, rfl, by omega, by omega⟩
        · exact ⟨a4, rfl, by omega, by omega⟩
      refine ⟨_, rfl, p, _, way, _, rfl, rfl, SqL.of upd_same, hz, ?_⟩
      -- if one not in found
      refine ⟨_, rfl, _, rfl, f, _, rfl, .inl (SqL.of f8), rfl, flat_ints _, _, rfl, ?_⟩
      rw [inV_ints]
      by_cases hin : z ∈ xs
      · rw [decide_eq_true hin]
        refine iteF ⟨xs, _, _, _, rfl, W8, f8, nd, by omega, fun _ => ?_, bd⟩
        exact List.length_pos_of_mem hin
      · rw [decide_eq_false hin]
        refine iteT ?_
        refine ⟨_, rfl, .inl ⟨rfl, _, SqL.of f8⟩, _, rfl, f, _, _, rfl, rfl, f8, len8 (by rw [List.length_map]; omega), ?_⟩
        refine ⟨xs ++ [z], _, _, _, rfl, W8.mut hfB hfs hfc, ?_, nodup_snoc nd hin, by rw [List.length_append, List.length_singleton]; omega, fun _ => by rw [List.length_append, List.length_singleton]; omega, fun x hx => ?_⟩
        · rw [upd_same, List.map_append]
          rfl
        · rcases List.mem_append.mp hx with hx | hx
          · exact bd x hx
          · obtain rfl := List.mem_singleton.mp hx
            exact ⟨z0, z1⟩
    · rintro σ H2 ⟨xs, y2, y3, y4, rfl, W2, f2, nd, l0, l1, bd⟩
      refine ⟨_, rfl, ?_⟩
      exact q f xs H2 ⟨nd, l1 (by omega), by omega, bd⟩ hf (W2.know f2 hfs hfc)
end
end K04

set_option maxHeartbeats 2000000
namespace K04
open PySem PySem.Spec PyProof.Rows L2 Evl MyG
/-! ### roads drawn -/
abbrev Row := Int × Int × Int
def rowV (r : Row) : List V := [.int r.1, .int r.2.1, .int r.2.2]
def RowsAt (B : Hp) : List V → List Row → Prop := Paired fun (v : V) (r : Row) => ∃ a, v = .ref a ∧ B a = some (.tup (rowV r))
structure RoadOk (ps : List Int) (r : Row) : Prop where
  m1 : r.1 ∈ ps
  m2 : r.2.1 ∈ ps
  ne : r.1 ≠ r.2.1
  c0 : 1 ≤ r.2.2
  c1 : r.2.2 ≤ 30
structure Roads (ps : List Int) (rs : List Row) : Prop where
  len : rs.length ≤ 12
  ok : ∀ r ∈ rs, RoadOk ps r
theorem RowsAt.mono {B B' : Hp} (e : Ex B B') {vs : List V} {rs : List Row} (h : RowsAt B vs rs) : RowsAt B' vs rs := Paired.mapP h fun _ _ ⟨a, h1, h2⟩ => ⟨a, h1, e _ _ h2⟩
theorem RowsAt.len {B : Hp} {vs : List V} {rs : List Row} (h : RowsAt B vs rs) : vs.length = rs.length := Paired.length h
theorem RowsAt.snoc {B : Hp} {a : Addr} {r : Row} (ha : B a = some (.tup (rowV r))) : ∀ {vs : List V} {rs : List Row}, RowsAt B vs rs → RowsAt B (vs ++ [.ref a]) (rs ++ [r])
  | _, _, .nil => .cons ⟨a, rfl, ha⟩ .nil
  | _, _, .cons h t => .cons h (RowsAt.snoc ha t)
def sp_roads : Sp := fun vs H Q _ => ∃ (s c a : Addr) (B : Hp) (ps : List Int), vs = [.ref s, .ref a] ∧ Wd s c B H ∧ B a = some (.lst (ps.map V.int)) ∧ Places ps ∧
  ∀ p ts rs B' H', Ex B B' → Roads ps rs → RowsAt B' ts rs → H p = none → B' p = some (.lst ts) → Wd s c B' H' → Q (.ref p) H'
theorem seq_nat {n : Nat} {k : Int} (h0 : 0 ≤ k) (h1 : k < (n : Int)) : seqIndex? k n = some k.toNat := by
  have e : k = (k.toNat : Int) := by omega
  rw [e]
  exact (ixN_seq (Evl.ixN_nat (show k.toNat < n by omega))).1
theorem erase_ints : ∀ (ns : List Int) (k : Nat), (ns.map V.int).eraseIdx k = (ns.eraseIdx k).map V.int
  | [], k => by simp
  | n :: ns, 0 => rfl
  | n :: ns, k + 1 => by
    show V.int n :: (ns.map V.int).eraseIdx k = V.int n :: (ns.eraseIdx k).map V.int
    rw [erase_ints ns k]
theorem erase_ne {ps : List Int} (nd : ps.Nodup) {k j : Nat} {x y : Int} (hx : ps[k]? = some x) (hy : (ps.eraseIdx k)[j]? = some y) : x ≠ y := by
  rw [List.getElem?_eraseIdx] at hy
  intro e
  subst e
  by_cases h : j < k
  · rw [if_pos h] at hy
    exact absurd (nd_ix nd hy hx) (by omega)
  · rw [if_neg h] at hy
    exact absurd (nd_ix nd hy hx) (by omega)
section
variable {P : Program} {w : World} {K : PySem.W.Frag} {mg : Str → Option Value} {base : Heap}
theorem ok_roads (T : Tx K mg) : FnOk P w K mg base CX0 2 T.a_l_roads T.d_l_roads ["_law_state_here", "_law_places_here"] sp_roads := by
  have G_l_draw := ok_draw (P := P) (w := w) (base := base) T
  refine T.F_l_roads.ok sc_l_roads (fun vs H Q E h => ?_) (fun cdv A outer s H vs Q E hr h => ?_)
  · obtain ⟨_, _, _, _, _, rfl, _⟩ := h
    rfl
  · obtain ⟨s, c, a, B, ps, rfl, hW, ha, hP, q⟩ := h
    refine ⟨_, (pss_cons (ps_set (i := 2) sc_l_roads.nd rfl (Or.inl rfl) (pe_lst pa_nil))
  (pss_cons (ps_if (pt_cmpR op_lt (pe_callB (lenK (K := K) rfl) (by rfl) T.z_len (by decide +kernel) (pa_cons (pv 1) pa_nil)) pe_int (nomark _)) (pss_one (ps_ret (pv 2))) pss_nil)
  (pss_cons (ps_for PassesOwn.never rfl (pi_range1 rfl T.z_range (pa_cons (pe_call G_l_draw (hr.mono (by decide)) (by rfl) T.g_l_draw T.F_l_draw.kp T.b_l_draw .nil pass0 (pa_cons (pv 0) (pa_cons pe_int pa_nil))) pa_nil)) (pg_name (i := 3) sc_l_roads.nd rfl (Or.inl rfl))
   (pss_cons (ps_set (i := 4) sc_l_roads.nd rfl (Or.inl rfl) (pe_callTy (listK (K := K) rfl) (by rfl) T.z_list (by decide +kernel) (pa_cons (pv 1) pa_nil)))
  (pss_cons (ps_par (i := 5) (j := 6) rfl sc_l_roads.nd rfl rfl (by decide) rfl rfl (pa_cons (pe_bm PySem.F.plainAttrs_list PySem.F.slot_list_pop PySem.F.type_list_pop mt_popAt (pv 4) (pa_cons (pe_call G_l_draw (hr.mono (by decide)) (by rfl) T.g_l_draw T.F_l_draw.kp T.b_l_draw .nil pass0 (pa_cons (pv 0) (pa_cons (pe_callB (lenK (K := K) rfl) (by rfl) T.z_len (by decide +kernel) (pa_cons (pv 4) pa_nil)) pa_nil))) pa_nil)) (pa_cons (pe_bm PySem.F.plainAttrs_list PySem.F.slot_list_pop PySem.F.type_list_pop mt_popAt (pv 4) (pa_cons (pe_call G_l_draw (hr.mono (by decide)) (by rfl) T.g_l_draw T.F_l_draw.kp T.b_l_draw .nil pass0 (pa_cons (pv 0) (pa_cons (pe_callB (lenK (K := K) rfl) (by rfl) T.z_len (by decide +kernel) (pa_cons (pv 4) pa_nil)) pa_nil))) pa_nil)) pa_nil)) (by rfl))
  (pss_one (ps_expr (pe_bm PySem.F.plainAttrs_list PySem.F.slot_list_append PySem.F.type_list_append mt_append (pv 2) (pa_cons (pe_tup (pa_cons (pv 5) (pa_cons (pv 6) (pa_cons (pe_ix (ix_listK (K := K) rfl) (pe_lst (pa_cons pe_int (pa_cons pe_int (pa_cons (pe_op op_add pe_int (pe_call G_l_draw (hr.mono (by decide)) (by rfl) T.g_l_draw T.F_l_draw.kp T.b_l_draw .nil pass0 (pa_cons (pv 0) (pa_cons pe_int pa_nil)))) pa_nil)))) (pe_call G_l_draw (hr.mono (by decide)) (by rfl) T.g_l_draw T.F_l_draw.kp T.b_l_draw .nil pass0 (pa_cons (pv 0) (pa_cons pe_int pa_nil))) (fun _ _ => rfl)) pa_nil)))) pa_nil)))))))
  (pss_one (ps_ret (pv 2)))))), ?_⟩
    refine ⟨Nat.zero_le _, fun f hf => ?_⟩
    have hfs := hW.st.ne_s hf
    have hfc := hW.st.ne_c hf
    have hfB := hW.none_of hf
    have hW1 := hW.ext (Ex.new (o := .lst []) hf)
    have hf1 : (upd H f (.lst [])) f = some (.lst []) := upd_same
    refine ⟨_, rfl, a, _, rfl, .inl (SqL.of (hW1.ex _ _ ha)), _, 2, rfl, rfl, _, rfl, ite2 (fun _ => ?_) (fun hl => ?_)⟩
    · refine ⟨_, rfl, ?_⟩
      exact q f [] [] _ _ (Ex.new (o := .lst []) hfB) ⟨Nat.zero_le _, fun r hr => nomatch hr⟩ .nil hf upd_same (hW1.know hf1 hfs hfc)
    have hl2 : 2 ≤ ps.length := by
      have := of_decide_eq_false (Bool.eq_false_iff.mpr hl)
      rw [List.length_map] at this
      omega
    -- for turn in range(draw(state, 13))
    refine ⟨_, rfl, s, c, 13, rfl, hW1.st, by decide, by decide, fun r H1 r0 r1 st1 off1 => ?_⟩
    have hW2 := hW1.off st1 off1
    refine ⟨r, rfl, by omega, by omega, for_range (lo := 0) (n := r.toNat) (fun i σ H' => ∃ (ts : List V) (rs : List Row) (Bi : Hp) (y3 y4 y5 y6 : Option V), σ = [some (.ref s), some (.ref a), some (.ref f), y3, y4, y5, y6] ∧ Wd s c Bi H' ∧ Ex B Bi ∧
      Bi f = none ∧ H' f = some (.lst ts) ∧ RowsAt Bi ts rs ∧ rs.length ≤ i ∧ ∀ r ∈ rs, RoadOk ps r) ⟨[], [], B, _, _, _, _, rfl, hW2, Ex.refl B, hfB, (off1 f hfs hfc).trans upd_same, .nil, Nat.le_refl _, fun x hx => nomatch hx⟩ ?_ ?_⟩
    · rintro i σ H2 hi ⟨ts, rs, Bi, y3, y4, y5, y6, rfl, W2, eB, fB, f2, hrs, l0, ok⟩
      have haI := eB _ _ ha
      have lts := hrs.len
      -- left = list(places)
      refine ⟨_, rfl, a, _, rfl, .inl (SqL.of (W2.ex _ _ haI)), fun l hl => ?_⟩
      have lB := W2.none_of hl
      have lf : f ≠ l := ne_of_none f2 hl
      have ls := W2.st.ne_s hl
      have lc := W2.st.ne_c hl
      have W3 := W2.ext (Ex.new (o := .lst (ps.map V.int)) hl)
      have f3 := Ex.new (o := .lst (ps.map V.int)) hl _ _ f2
      have l3 : (upd H2 l (.lst (ps.map V.int))) l = some (.lst (ps.map V.int)) := upd_same
      -- one = left.pop(draw(state, len(left)))
      refine ⟨_, rfl, .inl ⟨rfl, _, SqL.of l3⟩, _, rfl, _, rfl, l, _, rfl, .inl (SqL.of l3), s, c, _, rfl, W3.st, by rw [List.length_map]; omega, by rw [List.length_map]; have := hP.l1; omega, fun k H4 k0 k1 st4 off4 => ?_⟩
      rw [List.length_map] at k1
      have W4 := W3.off st4 off4
      have f4 := (off4 f hfs hfc).trans f3
      have l4 := (off4 l ls lc).trans l3
      have hk : k.toNat < ps.length := by omega
      have gk : ps[k.toNat]? = some ps[k.toNat] := List.getElem?_eq_getElem hk
      refine ⟨l, _, k, k.toNat, .int ps[k.toNat], rfl, rfl, l4, by omega, by have := hP.l1; omega, seq_nat k0 (by rw [List.length_map]; exact k1), by rw [List.getElem?_map, gk]; rfl, ?_⟩
      rw [erase_ints]
      have W5 := W4.mut (o := .lst ((ps.eraseIdx k.toNat).map V.int)) lB ls lc
      have f5 : (upd H4 l (.lst ((ps.eraseIdx k.toNat).map V.int))) f = some (.lst ts) := by rw [upd_ne lf]; exact f4
      have l5 : (upd H4 l (.lst ((ps.eraseIdx k.toNat).map V.int))) l = some (.lst ((ps.eraseIdx k.toNat).map V.int)) := upd_same
      have le : (ps.eraseIdx k.toNat).length = ps.length - 1 := List.length_eraseIdx_of_lt hk
      -- other = left.pop(draw(state, len(left)))
      refine ⟨_, rfl, .inl ⟨rfl, _, SqL.of l5⟩, _, rfl, _, rfl, l, _, rfl, .inl (SqL.of l5), s, c, _, rfl, W5.st, by rw [List.length_map]; omega, by rw [List.length_map]; have := hP.l1; omega, fun j H6 j0 j1 st6 off6 => ?_⟩
      rw [List.length_map] at j1
      have W6 := W5.off st6 off6
      have f6 := (off6 f hfs hfc).trans f5
      have l6 := (off6 l ls lc).trans l5
      have hj : j.toNat < (ps.eraseIdx k.toNat).length := by omega
      have gj : (ps.eraseIdx k.toNat)[j.toNat]? = some (ps.eraseIdx k.toNat)[j.toNat] := List.getElem?_eq_getElem hj
      have dif := erase_ne hP.nd gk gj
      have mj : (ps.eraseIdx k.toNat)[j.toNat] ∈ ps := List.mem_of_mem_eraseIdx (List.getElem_mem hj)
      have mk : ps[k.toNat] ∈ ps := List.getElem_mem hk
      generalize hone : ps[k.toNat] = one at dif mk
      generalize hoth : (ps.eraseIdx k.toNat)[j.toNat] = oth at dif mj
      refine ⟨l, _, j, j.toNat, .int oth, rfl, rfl, l6, by omega, by have := hP.l1; omega, seq_nat j0 (by rw [List.length_map]; exact j1), by rw [List.getElem?_map, gj, hoth]; rfl, _, _, rfl, ?_⟩
      have W7 := W6.mut (o := .lst (((ps.eraseIdx k.toNat).map V.int).eraseIdx j.toNat)) lB ls lc
      have f7 : (upd H6 l (.lst (((ps.eraseIdx k.toNat).map V.int).eraseIdx j.toNat))) f = some (.lst ts) := by rw [upd_ne lf]; exact f6
      -- found.append((one, other, [1, 30, 1 + draw(state, 30)][draw(state, 3)]))
      refine ⟨_, rfl, .inl ⟨rfl, _, SqL.of f7⟩, _, rfl, _, rfl, _, rfl, s, c, 30, rfl, W7.st, by decide, by decide, fun t H8 t0 t1 st8 off8 => ?_⟩
      have W8 := W7.off st8 off8
      have f8 := (off8 f hfs hfc).trans f7
      refine ⟨1, t, rfl, rfl, by show 3 ≤ sizeLine; decide, fun p hp => ?_⟩
      have p9 : (upd H8 p (.lst [.int 1, .int 30, .int (1 + t)])) p = some (.lst [.int 1, .int 30, .int (1 + t)]) := upd_same
      have W9 := W8.ext (Ex.new (o := .lst [.int 1, .int 30, .int (1 + t)]) hp)
      have f9 := Ex.new (o := .lst [.int 1, .int 30, .int (1 + t)]) hp _ _ f8
      refine ⟨_, rfl, s, c, 3, rfl, W9.st, by decide, by decide, fun v H10 v0 v1 st10 off10 => ?_⟩
      have W10 := W9.off st10 off10
      have f10 := (off10 f hfs hfc).trans f9
      have p10 := (off10 p (W8.st.ne_s hp) (W8.st.ne_c hp)).trans p9
      obtain ⟨z, hz, z0, z1⟩ : ∃ z, atI [V.int 1, .int 30, .int (1 + t)] v = some (.int z) ∧ 1 ≤ z ∧ z ≤ 30 := by
        have : v = 0 ∨ v = 1 ∨ v = 2 := by omega
        rcases this with rfl | rfl | rfl
        · exact ⟨1, rfl, by omega, by omega⟩
        · exact ⟨30, rfl, by omega, by omega⟩
        · exact ⟨1 + t, rfl, by omega, by omega⟩
      refine ⟨p, _, v, _, rfl, rfl, SqL.of p10, hz, by show 3 ≤ sizeLine; decide, fun u hu => ?_⟩
      have uB := W10.none_of hu
      have u11 : (upd H10 u (.tup [.int one, .int oth, .int z])) u = some (.tup (rowV (one, oth, z))) := upd_same
      have f11 := Ex.new (o := .tup [.int one, .int oth, .int z]) hu _ _ f10
      have W11 := (W10.ext (Ex.new (o := .tup [.int one, .int oth, .int z]) hu)).know u11 (W10.st.ne_s hu) (W10.st.ne_c hu)
      have uf : f ≠ u := ne_of_none f10 hu
      have eB' : Ex Bi (upd Bi u (.tup (rowV (one, oth, z)))) := Ex.new uB
      have fB' : (upd Bi u (.tup (rowV (one, oth, z)))) f = none := by rw [upd_ne uf]; exact fB
      refine ⟨f, _, _, rfl, rfl, f11, len8 (by omega), ?_⟩
      refine ⟨ts ++ [.ref u], rs ++ [(one, oth, z)], _, _, _, _, _, by rw [← hone]; rfl, W11.mut fB' hfs hfc, eB.trans eB', fB', upd_same, RowsAt.snoc upd_same (hrs.mono eB'), by rw [List.length_append, List.length_singleton]; omega, fun x hx => ?_⟩
      rcases List.mem_append.mp hx with hx | hx
      · exact ok x hx
      · obtain rfl := List.mem_singleton.mp hx
        exact ⟨mk, mj, dif, z0, z1⟩
    · rintro σ H2 ⟨ts, rs, Bi, y3, y4, y5, y6, rfl, W2, eB, fB, f2, hrs, l0, ok⟩
      refine ⟨_, rfl, ?_⟩
      exact q f ts rs _ H2 (eB.trans (Ex.new fB)) ⟨by omega, ok⟩ (hrs.mono (Ex.new fB)) hf upd_same (W2.know f2 hfs hfc)
end
end K04

set_option maxHeartbeats 2000000
namespace K04
open PySem PySem.Spec PyProof.Rows L2 Evl MyG
/-! ### what makes a net -/
def sp_isnum : Sp := fun vs H Q _ => ∃ x t, vs = [x] ∧ AnyT H x t ∧ Q (.bl (t == "int")) H
def hallV : V → Bool
  | .int i => decide (0 ≤ i) && decide (i ≤ 999)
  | _ => false
def hallsB (xs : List V) : Bool := decide (1 ≤ xs.length) && (decide (xs.length ≤ 8) && (xs.all hallV && decide xs.Nodup))
def sp_areh : Sp := fun vs H Q _ => ∃ x t, vs = [x] ∧ AnyT H x t ∧ (t ≠ "list" → Q (.bl false) H) ∧ (t = "list" → ∃ a xs, x = .ref a ∧ H a = some (.lst xs) ∧ xs.length ≤ 1000 ∧ (∀ y ∈ xs, ∃ ty, AnyT H y ty) ∧ ∀ H', Ex H H' → Q (.bl (hallsB xs)) H')
theorem int_of' {H : Hp} {x : V} {t : String} (h : AnyT H x t) (e : t = "int") : ∃ i, x = .int i := by
  cases h with
  | int i => exact ⟨i, rfl⟩
  | _ => exact absurd e (by decide)
theorem int_of {H : Hp} {x : V} (h : AnyT H x "int") : ∃ i, x = .int i := int_of' h rfl
theorem not_int {H : Hp} {x : V} {t : String} (h : AnyT H x t) (ht : t ≠ "int") : hallV x = false := by
  cases h with
  | int i => exact absurd rfl ht
  | _ => rfl
theorem ints_of {xs : List V} (h : xs.all hallV = true) : ∃ ns : List Int, xs = ns.map V.int := by
  induction xs with
  | nil => exact ⟨[], rfl⟩
  | cons x r ih =>
    rw [List.all_cons, Bool.and_eq_true] at h
    obtain ⟨ns, rfl⟩ := ih h.2
    cases x with
    | int i => exact ⟨i :: ns, rfl⟩
    | _ => exact absurd h.1 (by simp [hallV])
theorem nodup_ints {ns : List Int} : (ns.map V.int).Nodup ↔ ns.Nodup := by
  constructor
  · intro h
    exact List.Pairwise.of_map V.int (fun a b (hab : V.int a ≠ V.int b) (e : a = b) => hab (by rw [e])) h
  · intro h
    exact List.Pairwise.map _ (fun a b (hab : a ≠ b) (e : V.int a = V.int b) => hab (V.int.inj e)) h
section
variable {P : Program} {w : World} {K : PySem.W.Frag} {mg : Str → Option Value} {base : Heap}
theorem ok_isnum (T : Tx K mg) : FnOk P w K mg base CX0 1 T.a_is_number T.d_is_number ["thing"] sp_isnum := by
  refine T.F_is_number.ok sc_is_number (fun vs H Q E h => ?_) (fun cdv A outer s H vs Q E hr h => ?_)
  · obtain ⟨_, _, rfl, _⟩ := h
    rfl
  · obtain ⟨x, t, rfl, ht, q⟩ := h
    refine ⟨_, (pss_one (ps_ret (pe_and (pe_callB (isiK (K := K) rfl) (by rfl) T.z_isinstance (by decide +kernel) (pa_cons (pv 0) (pa_cons (pe_bltn (v := .ty "int") (by rfl) T.z_int (by decide +kernel) rfl) pa_nil))) (pe_one (pe_not (pe_callB (isiK (K := K) rfl) (by rfl) T.z_isinstance (by decide +kernel) (pa_cons (pv 0) (pa_cons (pe_bltn (v := .ty "bool") (by rfl) T.z_bool (by decide +kernel) rfl) pa_nil)))))))), ?_⟩
    refine ⟨_, rfl, ?_⟩
    refine ⟨_, .ty "int", _, .type "int", _, rfl, .ty _, ht.ty, kit_ty (kit_all ht.mem).1, ?_⟩
    refine ⟨_, rfl, ?_⟩
    cases hb : (t == "int" || t == "bool") with
    | true =>
      refine iteT ?_
      refine ⟨_, rfl, ?_⟩
      refine ⟨_, .ty "bool", _, .type "bool", _, rfl, .ty _, ht.ty, kit_ty (kit_all ht.mem).2.1, ?_⟩
      refine ⟨_, rfl, ?_⟩
      rw [Bool.or_eq_true] at hb
      rcases hb with e | e
      · rw [eq_of_beq e] at q ⊢
        exact q
      · rw [eq_of_beq e] at q ⊢
        exact q
    | false =>
      refine iteF ?_
      rw [Bool.or_eq_false_iff] at hb
      rw [hb.1] at q
      exact q
theorem ok_areh (T : Tx K mg) : FnOk P w K mg base CX0 2 T.a__are_halls T.d__are_halls ["things"] sp_areh := by
  have G_is_number := ok_isnum (P := P) (w := w) (base := base) T
  refine T.F__are_halls.ok sc__are_halls (fun vs H Q E h => ?_) (fun cdv A outer s H vs Q E hr h => ?_)
  · obtain ⟨_, _, rfl, _⟩ := h
    rfl
  · obtain ⟨x, t, rfl, ht, q1, q2⟩ := h
    refine ⟨_, (pss_one (ps_ret (pe_and (pe_callB (isiK (K := K) rfl) (by rfl) T.z_isinstance (by decide +kernel) (pa_cons (pv 0) (pa_cons (pe_bltn (v := .ty "list") (by rfl) T.z_list (by decide +kernel) rfl) pa_nil))) (pe_and (pe_chain op_le op_le pe_int (pe_callB (lenK (K := K) rfl) (by rfl) T.z_len (by decide +kernel) (pa_cons (pv 0) pa_nil)) (pe_glob (v := .int (8)) rfl T.v_MOST_HALLS ⟨_, rfl⟩)) (pe_and (pe_callB (allK (K := K) rfl rfl) (by rfl) T.z_all (by decide +kernel) (pa_cons (pe_lc (own := [("thing", 1)]) (g := (gName 1)) (tt := tYes) rfl sc__are_halls.nd (iListK (K := K) rfl (pv 0)) (blkOk_by (N := n__are_halls) (sc := defScope s__are_halls) (by decide +kernel)) (fun _ _ _ _ _ => (pg_name (i := 1) sc__are_halls.nd rfl (Or.inl rfl))) (fun _ _ _ _ _ => pts_nil) (fun _ _ _ _ _ => (pe_and (pe_call G_is_number (hr.mono (by decide)) (by rfl) T.g_is_number T.F_is_number.kp T.b_is_number .nil pass0 (pa_cons (pv 1) pa_nil)) (pe_one (pe_chain op_le op_le pe_int (pv 1) (pe_glob (v := .int (999)) rfl T.v_LAST_HALL ⟨_, rfl⟩)))))) pa_nil)) (pe_one (pe_cmpR op_eq (lenSetK (K := K) rfl (by rfl) T.z_len (by rfl) T.z_set (pv 0)) (pe_callB (lenK (K := K) rfl) (by rfl) T.z_len (by decide +kernel) (pa_cons (pv 0) pa_nil)) (nomark _)))))))), ?_⟩
    refine ⟨_, rfl, ?_⟩
    refine ⟨_, .ty "list", _, .type "list", _, rfl, .ty _, ht.ty, kit_ty (kit_all ht.mem).2.2.1, ?_⟩
    refine ⟨_, rfl, ?_⟩
    by_cases e : t = "list"
    · subst e
      obtain ⟨a, xs, rfl, ha, hz, hany, q⟩ := q2 rfl
      refine iteT ?_
      -- 1 <= len(things) <= MOST_HALLS
      refine ⟨_, rfl, a, _, rfl, .inl (SqL.of ha), 1, _, rfl, rfl, _, rfl, ?_⟩
      by_cases l1 : 1 ≤ xs.length
      · rw [decide_eq_true (show (1 : Int) ≤ (xs.length : Int) by omega)]
        refine iteT ⟨_, 8, rfl, rfl, _, rfl, ?_⟩
        by_cases l2 : xs.length ≤ 8
        · rw [decide_eq_true (show (xs.length : Int) ≤ 8 by omega)]
          refine iteT ?_
          -- all([..])
          refine un_and (un_cb (un_cons ?_))
          refine go_L (el_map (ys := (xs.map hallV).map V.bl) (ev_var rfl) (SqL.of ha) (by omega) (by simp) (fun _ => rfl) (fun i x y H1 e1 hx hy => ?_)) (fun p H1 hp e1 h1 => ?_)
          · have hxm := List.mem_of_getElem? hx
            rw [List.map_map, List.getElem?_map, hx] at hy
            obtain rfl := Option.some.inj hy
            obtain ⟨ty, hty⟩ := hany x hxm
            intro H2 e2 Q q
            refine ⟨_, rfl, x, ty, rfl, (hty.ext e1).ext e2, _, rfl, ?_⟩
            by_cases ei : ty = "int"
            · subst ei
              obtain ⟨i, rfl⟩ := int_of hty
              refine iteT ⟨_, rfl, 0, i, rfl, rfl, _, rfl, ?_⟩
              by_cases h0 : 0 ≤ i
              · rw [decide_eq_true h0]
                refine iteT ⟨i, 999, rfl, rfl, ?_⟩
                have z := q H2 (Ex.refl _)
                show Q (.bl (decide (i ≤ 999))) H2
                have ez : hallV (.int i) = decide (i ≤ 999) := by
                  show (decide (0 ≤ i) && decide (i ≤ 999)) = _
                  rw [decide_eq_true h0, Bool.true_and]
                rw [← ez]
                exact z
              · rw [decide_eq_false h0]
                refine iteF ?_
                have z := q H2 (Ex.refl _)
                have ez : hallV (.int i) = false := by
                  show (decide (0 ≤ i) && decide (i ≤ 999)) = _
                  rw [decide_eq_false h0, Bool.false_and]
                rw [← ez]
                exact z
            · have eb : (ty == "int") = false := beq_eq_false_iff_ne.mpr ei
              rw [eb]
              refine iteF ?_
              have z := q H2 (Ex.refl _)
              have ez := not_int hty ei
              rw [← ez]
              exact z
          · refine ⟨p, xs.map hallV, rfl, SqL.of h1, _, rfl, ?_⟩
            have eall : (xs.map hallV).all id = xs.all hallV := by rw [List.all_map]; rfl
            rw [eall]
            cases hall : xs.all hallV with
            | true =>
              refine iteT ?_
              -- len(set(things)) == len(things)
              obtain ⟨ns, rfl⟩ := ints_of hall
              refine ⟨_, rfl, a, ns, rfl, SqL.of (e1 _ _ ha), by rw [List.length_map] at hz; omega, fun n hn => ⟨_, rfl, a, _, rfl, .inl (SqL.of (e1 _ _ ha)), rfl, ?_⟩⟩
              have z := q H1 e1
              have ez : hallsB (ns.map V.int) = decide (V.int (n : Int) = V.int ((ns.map V.int).length : Nat)) := by
                unfold hallsB
                rw [decide_eq_true l1, decide_eq_true l2, hall, Bool.true_and, Bool.true_and, Bool.true_and]
                refine decide_eq_decide.mpr (nodup_ints.trans (hn.symm.trans ?_))
                rw [List.length_map]
                exact ⟨fun e => by rw [e], fun e => by have := V.int.inj e; omega⟩
              rw [← ez]
              exact z
            | false =>
              refine iteF ?_
              have z := q H1 e1
              have ez : hallsB xs = false := by
                unfold hallsB
                rw [hall, Bool.false_and, Bool.and_false, Bool.and_false]
              rw [ez] at z
              exact z
        · rw [decide_eq_false (show ¬ (xs.length : Int) ≤ 8 by omega)]
          refine iteF ?_
          have z := q H (Ex.refl _)
          have ez : hallsB xs = false := by
            unfold hallsB
            rw [decide_eq_false l2, Bool.false_and, Bool.and_false]
          rw [ez] at z
          exact z
      · rw [decide_eq_false (show ¬ (1 : Int) ≤ (xs.length : Int) by omega)]
        refine iteF ⟨_, rfl, iteF ?_⟩
        have z := q H (Ex.refl _)
        have ez : hallsB xs = false := by
          unfold hallsB
          rw [decide_eq_false l1, Bool.false_and]
        rw [ez] at z
        exact z
    · have eb : (t == "list") = false := beq_eq_false_iff_ne.mpr e
      rw [eb]
      exact iteF (q1 e)
end
end K04

set_option maxHeartbeats 2000000
namespace K04
open PySem PySem.Spec PyProof.Rows L2 Evl MyG
def linkB (hs : List Int) : List V → Bool
  | [.int a, .int b, .int c] => decide (a ∈ hs) && (decide (b ∈ hs) && (!decide (a = b) && (decide (1 ≤ c) && decide (c ≤ 30))))
  | _ => false
def sp_isl : Sp := fun vs H Q _ => ∃ x t h hs, vs = [x, .ref h] ∧ AnyT H x t ∧ H h = some (.lst (hs.map V.int)) ∧ (t ≠ "tuple" → Q (.bl false) H) ∧
  (t = "tuple" → ∃ a xs, x = .ref a ∧ H a = some (.tup xs) ∧ xs.length ≤ 1000 ∧ (∀ y ∈ xs, ∃ ty, AnyT H y ty) ∧ ∀ H', Ex H H' → Q (.bl (linkB hs xs)) H')
theorem el_mapT {K : PySem.W.Frag} {σ : L2.St} {H : Hp} {te : TE} {a : Addr} {xs ys : List V} {tl : TE} {j : Nat} {vs : List Nat} (h : Ev tl σ H (.ref a)) (hx : SqT K H a xs) (hz : xs.length ≤ 40000) (hl : ys.length = xs.length)
    (hw : ∀ x, wipe ((wipe σ vs).set j (some x)) vs = wipe σ vs) (he : ∀ (i : Nat) (x y : V) H1, Ex H H1 → xs[i]? = some x → ys[i]? = some y → Ev te ((wipe σ vs).set j (some x)) H1 y) : EvL (tLc (iTup K tl) (gName j) tYes te vs) σ H ys := fun H0 e Q q =>
  h H0 e _ fun H1 e1 => ⟨a, rfl, ⟨xs, ex_t (e.trans e1) hx⟩, fun Dl hD => by
    refine lc_tup (xs := xs) (fun i H' => Ex H1 H' ∧ H' Dl = some (.lst (ys.take i))) ⟨Ex.new hD, upd_same⟩ (fun i H' _ p => ex_t ((e.trans e1).trans p.1) hx) (fun i x H' hi p => ⟨hw x, un_yes (iteT ?_)⟩) (fun H' p => q Dl H' (fresh_back e1 hD) (e1.trans p.1) ?_)
    · have h1 := (List.getElem?_eq_some_iff.mp hi).1
      have h2 : i < ys.length := by omega
      refine he i x ys[i] H' ((e.trans e1).trans p.1) hi (List.getElem?_eq_getElem h2) H' (Ex.refl _) _ (fun H2 e2 => ⟨_, e2 _ _ p.2, ?_, (p.1.trans e2).mut hD, ?_⟩)
      · rw [List.length_take]; exact sz_lt (by omega)
      · rw [upd_same, List.take_add_one, List.getElem?_eq_getElem h2]; rfl
    · rw [p.2, ← hl, List.take_length]⟩
theorem link_no (hs : List Int) {xs : List V} (h : xs.all (fun x => match x with | .int _ => true | _ => false) = false) : linkB hs xs = false := by
  unfold linkB
  split
  · exact absurd h (by simp)
  · rfl
section
variable {P : Program} {w : World} {K : PySem.W.Frag} {mg : Str → Option Value} {base : Heap}
theorem ok_isl (T : Tx K mg) : FnOk P w K mg base CX0 2 T.a__is_link T.d__is_link ["thing", "halls"] sp_isl := by
  have G_is_number := ok_isnum (P := P) (w := w) (base := base) T
  refine T.F__is_link.ok sc__is_link (fun vs H Q E h => ?_) (fun cdv A outer s H vs Q E hr h => ?_)
  · obtain ⟨_, _, _, _, rfl, _⟩ := h
    rfl
  · obtain ⟨x, t, h, hs, rfl, ht, hh, q1, q2⟩ := h
    refine ⟨_, (pss_cons (ps_if (PW.pt (pw_or (pt_not (pt_val (pe_callB (isiK (K := K) rfl) (by rfl) T.z_isinstance (by decide +kernel) (pa_cons (pv 0) (pa_cons (pe_bltn (v := .ty "tuple") (by rfl) T.z_tuple (by decide +kernel) rfl) pa_nil))))) (pw_or1 (pt_cmpR op_ne (pe_callB (lenK (K := K) rfl) (by rfl) T.z_len (by decide +kernel) (pa_cons (pv 0) pa_nil)) pe_int (nomark _))))) (pss_one (ps_ret pe_bl)) pss_nil)
  (pss_cons (ps_if (pt_not (pt_val (pe_callB (allK (K := K) rfl rfl) (by rfl) T.z_all (by decide +kernel) (pa_cons (pe_lc (own := [("part", 5)]) (g := (gName 5)) (tt := tYes) rfl sc__is_link.nd (iTupK (K := K) rfl (pv 0)) (blkOk_by (N := n__is_link) (sc := defScope s__is_link) (by decide +kernel)) (fun _ _ _ _ _ => (pg_name (i := 5) sc__is_link.nd rfl (Or.inl rfl))) (fun _ _ _ _ _ => pts_nil) (fun _ _ _ _ _ => (pe_call G_is_number (hr.mono (by decide)) (by rfl) T.g_is_number T.F_is_number.kp T.b_is_number .nil pass0 (pa_cons (pv 5) pa_nil)))) pa_nil)))) (pss_one (ps_ret pe_bl)) pss_nil)
  (pss_cons (ps_asg (pv 0) (pg_tup rfl (pgs_cons (pg_name (i := 2) sc__is_link.nd rfl (Or.inl rfl)) (pgs_cons (pg_name (i := 3) sc__is_link.nd rfl (Or.inl rfl)) (pgs_cons (pg_name (i := 4) sc__is_link.nd rfl (Or.inl rfl)) pgs_nil)))))
  (pss_one (ps_ret (pe_and (pe_cmpR (op_inK (K := K) rfl) (pv 2) (pv 1) (by rfl)) (pe_and (pe_cmpR (op_inK (K := K) rfl) (pv 3) (pv 1) (by rfl)) (pe_and (pe_cmpR op_ne (pv 2) (pv 3) (nomark _)) (pe_one (pe_chain op_le op_le pe_int (pv 4) (pe_glob (v := .int (30)) rfl T.v_MOST_COST ⟨_, rfl⟩))))))))))), ?_⟩
    refine ⟨_, rfl, ?_⟩
    refine ⟨_, .ty "tuple", _, .type "tuple", _, rfl, .ty _, ht.ty, kit_ty (kit_all ht.mem).2.2.2.1, _, rfl, ?_⟩
    by_cases e : t = "tuple"
    · subst e
      obtain ⟨a, xs, rfl, ha, hz, hany, q⟩ := q2 rfl
      refine iteF ?_
      -- len(thing) != 3
      refine ⟨_, rfl, a, _, rfl, .inr (SqT.of ha), rfl, _, rfl, ?_⟩
      by_cases l3 : xs.length = 3
      · rw [show decide (V.int (xs.length : Nat) = V.int 3) = true from decide_eq_true (by rw [l3]; rfl)]
        refine iteF ?_
        -- if not all([..])
        let isI : V → Bool := fun x => match x with | .int _ => true | _ => false
        refine un_next ?_
        dsimp only
        refine un_seq (un_if (un_not (un_tB (un_cb (un_cons ?_)))))
        refine go_L (el_mapT (ys := (xs.map isI).map V.bl) (ev_var rfl) (SqT.of ha) (by omega) (by simp) (fun _ => rfl) (fun i x y H1 e1 hx hy => ?_)) (fun p H1 hp e1 h1 => ?_)
        · have hxm := List.mem_of_getElem? hx
          rw [List.map_map, List.getElem?_map, hx] at hy
          obtain rfl := Option.some.inj hy
          obtain ⟨ty, hty⟩ := hany x hxm
          intro H2 e2 Q q
          refine ⟨_, rfl, x, ty, rfl, (hty.ext e1).ext e2, ?_⟩
          have z := q H2 (Ex.refl _)
          have ez : isI x = (ty == "int") := by
            cases hty <;> rfl
          rw [← ez]
          exact z
        · refine ⟨p, xs.map isI, rfl, SqL.of h1, _, rfl, ?_⟩
          have eall : (xs.map isI).all id = xs.all isI := by rw [List.all_map]; rfl
          rw [eall]
          cases hall : xs.all isI with
          | false =>
            refine iteT ?_
            have z := q H1 e1
            rw [link_no hs hall] at z
            exact z
          | true =>
            refine iteF ?_
            obtain ⟨o, u, v, rfl⟩ : ∃ o u v : Int, xs = [.int o, .int u, .int v] := by
              match xs, l3, hall with
              | [x1, x2, x3], _, hall =>
                rw [List.all_eq_true] at hall
                have f : ∀ x, isI x = true → ∃ i, x = .int i := fun x hx => by
                  cases x with
                  | int i => exact ⟨i, rfl⟩
                  | _ => exact absurd hx (by simp [isI])
                obtain ⟨o, rfl⟩ := f x1 (hall x1 (by simp))
                obtain ⟨u, rfl⟩ := f x2 (hall x2 (by simp))
                obtain ⟨v, rfl⟩ := f x3 (hall x3 (by simp))
                exact ⟨o, u, v, rfl⟩
            have hh1 := e1 _ _ hh
            -- one, other, cost = thing
            refine ⟨_, rfl, a, _, rfl, SqT.of (e1 _ _ ha), rfl, _, _, rfl, _, _, rfl, _, _, rfl, rfl, ?_⟩
            -- return ..
            have z := q H1 e1
            have ez : linkB hs [.int o, .int u, .int v] = (decide (o ∈ hs) && (decide (u ∈ hs) && (!decide (o = u) && (decide (1 ≤ v) && decide (v ≤ 30))))) := rfl
            rw [ez] at z
            refine ⟨_, rfl, _, rfl, h, _, rfl, .inl (SqL.of hh1), rfl, flat_ints hs, _, rfl, ?_⟩
            rw [inV_ints]
            cases d1 : decide (o ∈ hs) with
            | false =>
              rw [d1] at z
              exact iteF z
            | true =>
              rw [d1] at z
              refine iteT ⟨_, rfl, _, rfl, h, _, rfl, .inl (SqL.of hh1), rfl, flat_ints hs, _, rfl, ?_⟩
              rw [inV_ints]
              cases d2 : decide (u ∈ hs) with
              | false =>
                rw [d2] at z
                exact iteF z
              | true =>
                rw [d2] at z
                refine iteT ⟨_, rfl, _, rfl, rfl, _, rfl, ?_⟩
                have e3 : decide (V.int o = V.int u) = decide (o = u) := decide_eq_decide.mpr ⟨fun e => V.int.inj e, fun e => by rw [e]⟩
                rw [e3]
                cases d3 : decide (o = u) with
                | true =>
                  rw [d3] at z
                  exact iteF z
                | false =>
                  rw [d3] at z
                  refine iteT ⟨_, rfl, 1, v, rfl, rfl, _, rfl, ?_⟩
                  cases d4 : decide (1 ≤ v) with
                  | false =>
                    rw [d4] at z
                    exact iteF z
                  | true =>
                    rw [d4] at z
                    exact iteT ⟨v, 30, rfl, rfl, z⟩
      · rw [show decide (V.int (xs.length : Nat) = V.int 3) = false from decide_eq_false (fun e => l3 (by have := V.int.inj e; omega))]
        refine iteT ?_
        have z := q H (Ex.refl _)
        have ez : linkB hs xs = false := by
          unfold linkB
          split
          · exact absurd rfl l3
          · rfl
        rw [ez] at z
        exact z
    · have eb : (t == "tuple") = false := beq_eq_false_iff_ne.mpr e
      rw [eb]
      exact iteT (q1 e)
end
end K04

set_option maxHeartbeats 2000000
namespace K04
open PySem PySem.Spec PyProof.Rows L2 Evl MyG
/-- what each thing of a list of links is: a tuple of these, or none -/
def ThingsAt (H : Hp) : List V → List (Option (List V)) → Prop := Paired fun (x : V) (d : Option (List V)) => match d with
  | none => ∃ t, AnyT H x t ∧ t ≠ "tuple"
  | some ys => ∃ a, x = .ref a ∧ H a = some (.tup ys) ∧ ys.length ≤ 1000 ∧ ∀ y ∈ ys, ∃ ty, AnyT H y ty
def thingB (hs : List Int) : Option (List V) → Bool
  | none => false
  | some ys => linkB hs ys
def linksB (hs : List Int) (ds : List (Option (List V))) : Bool := decide (ds.length ≤ 12) && ds.all (thingB hs)
def sp_arel : Sp := fun vs H Q _ => ∃ x t h hs, vs = [x, .ref h] ∧ AnyT H x t ∧ H h = some (.lst (hs.map V.int)) ∧ (t ≠ "list" → Q (.bl false) H) ∧
  (t = "list" → ∃ a xs ds, x = .ref a ∧ H a = some (.lst xs) ∧ xs.length ≤ 1000 ∧ ThingsAt H xs ds ∧ ∀ H', Ex H H' → Q (.bl (linksB hs ds)) H')
theorem paired_at {α β : Type} {R : α → β → Prop} : ∀ {xs : List α} {ys : List β} {i : Nat} {x : α}, Paired R xs ys → xs[i]? = some x → ∃ y, ys[i]? = some y ∧ R x y
  | _, _, _, _, .nil, e => by simp at e
  | _, _, 0, _, .cons r _, e => by simp at e; subst e; exact ⟨_, rfl, r⟩
  | _, _, i + 1, x, .cons _ t, e => by
    obtain ⟨y, h1, h2⟩ := paired_at (i := i) (x := x) t (by simpa using e)
    exact ⟨y, by simpa using h1, h2⟩
section
variable {P : Program} {w : World} {K : PySem.W.Frag} {mg : Str → Option Value} {base : Heap}
theorem ok_arel (T : Tx K mg) : FnOk P w K mg base CX0 3 T.a__are_links T.d__are_links ["things", "halls"] sp_arel := by
  have G__is_link := ok_isl (P := P) (w := w) (base := base) T
  refine T.F__are_links.ok sc__are_links (fun vs H Q E h => ?_) (fun cdv A outer s H vs Q E hr h => ?_)
  · obtain ⟨_, _, _, _, rfl, _⟩ := h
    rfl
  · obtain ⟨x, t, h, hs, rfl, ht, hh, q1, q2⟩ := h
    refine ⟨_, (pss_one (ps_ret (pe_and (pe_callB (isiK (K := K) rfl) (by rfl) T.z_isinstance (by decide +kernel) (pa_cons (pv 0) (pa_cons (pe_bltn (v := .ty "list") (by rfl) T.z_list (by decide +kernel) rfl) pa_nil))) (pe_and (pe_cmpR op_le (pe_callB (lenK (K := K) rfl) (by rfl) T.z_len (by decide +kernel) (pa_cons (pv 0) pa_nil)) (pe_glob (v := .int (12)) rfl T.v_MOST_LINKS ⟨_, rfl⟩) (nomark _)) (pe_one (pe_callB (allK (K := K) rfl rfl) (by rfl) T.z_all (by decide +kernel) (pa_cons (pe_lc (own := [("thing", 2)]) (g := (gName 2)) (tt := tYes) rfl sc__are_links.nd (iListK (K := K) rfl (pv 0)) (blkOk_by (N := n__are_links) (sc := defScope s__are_links) (by decide +kernel)) (fun _ _ _ _ _ => (pg_name (i := 2) sc__are_links.nd rfl (Or.inl rfl))) (fun _ _ _ _ _ => pts_nil) (fun _ _ _ _ _ => (pe_call G__is_link (hr.mono (by decide)) (by rfl) T.g__is_link T.F__is_link.kp T.b__is_link .nil pass0 (pa_cons (pv 2) (pa_cons (pv 1) pa_nil))))) pa_nil))))))), ?_⟩
    refine ⟨_, rfl, ?_⟩
    refine ⟨_, .ty "list", _, .type "list", _, rfl, .ty _, ht.ty, kit_ty (kit_all ht.mem).2.2.1, _, rfl, ?_⟩
    by_cases e : t = "list"
    · subst e
      obtain ⟨a, xs, ds, rfl, ha, hz, hds, q⟩ := q2 rfl
      have ldx : xs.length = ds.length := Paired.length hds
      refine iteT ?_
      -- len(things) <= MOST_LINKS
      refine ⟨_, rfl, a, _, rfl, .inl (SqL.of ha), _, 12, rfl, rfl, _, rfl, ?_⟩
      by_cases l2 : xs.length ≤ 12
      · rw [decide_eq_true (show (xs.length : Int) ≤ 12 by omega)]
        refine iteT ?_
        refine un_cb (un_cons ?_)
        refine go_L (el_map (ys := (ds.map (thingB hs)).map V.bl) (ev_var rfl) (SqL.of ha) (by omega) (by simp [ldx]) (fun _ => rfl) (fun i x y H1 e1 hx hy => ?_)) (fun p H1 hp e1 h1 => ?_)
        · obtain ⟨d, hd, hR⟩ := paired_at hds hx
          rw [List.map_map, List.getElem?_map, hd] at hy
          obtain rfl := Option.some.inj hy
          intro H2 e2 Q q
          have z := q H2 (Ex.refl _)
          have ee := e1.trans e2
          cases d with
          | none =>
            obtain ⟨t, hty, hne⟩ := hR
            exact ⟨_, rfl, _, rfl, x, t, h, hs, rfl, hty.ext ee, ee _ _ hh, fun _ => z, fun e => absurd e hne⟩
          | some ys =>
            obtain ⟨b, rfl, hb, hbl, hby⟩ := hR
            exact ⟨_, rfl, _, rfl, .ref b, "tuple", h, hs, rfl, .tup (ee _ _ hb), ee _ _ hh, fun e => absurd rfl e, fun _ => ⟨b, ys, rfl, ee _ _ hb, hbl, fun y hy => let ⟨ty, k⟩ := hby y hy; ⟨ty, k.ext ee⟩, fun H3 e3 => q H3 e3⟩⟩
        · refine ⟨p, ds.map (thingB hs), rfl, SqL.of h1, ?_⟩
          have z := q H1 e1
          have eall : (ds.map (thingB hs)).all id = linksB hs ds := by
            unfold linksB
            rw [decide_eq_true (show ds.length ≤ 12 by omega), Bool.true_and, List.all_map]
            rfl
          rw [eall]
          exact z
      · rw [decide_eq_false (show ¬ (xs.length : Int) ≤ 12 by omega)]
        refine iteF ?_
        have z := q H (Ex.refl _)
        have ez : linksB hs ds = false := by
          unfold linksB
          rw [decide_eq_false (show ¬ ds.length ≤ 12 by omega), Bool.false_and]
        rw [ez] at z
        exact z
    · have eb : (t == "list") = false := beq_eq_false_iff_ne.mpr e
      rw [eb]
      exact iteF (q1 e)
end
/-! ### a net -/
def nf (h r l : Addr) : List (Str × V) := putF "_links" (.ref l) (putF "_rising" (.ref r) (putF "_handed" (.ref h) []))
theorem hr_ : ¬ (("_handed" : Str) = "_rising") := by decide +kernel
theorem hl_ : ¬ (("_handed" : Str) = "_links") := by decide +kernel
theorem rl_ : ¬ (("_rising" : Str) = "_links") := by decide +kernel
theorem nf_h (h r l : Addr) : (nf h r l).lookup ("_handed" : Str) = some (.ref h) := by
  unfold nf
  rw [lookup_putF, if_neg hl_, lookup_putF, if_neg hr_, lookup_putF, if_pos rfl]
theorem nf_r (h r l : Addr) : (nf h r l).lookup ("_rising" : Str) = some (.ref r) := by
  unfold nf
  rw [lookup_putF, if_neg rl_, lookup_putF, if_pos rfl]
theorem nf_l (h r l : Addr) : (nf h r l).lookup ("_links" : Str) = some (.ref l) := by
  unfold nf
  rw [lookup_putF, if_pos rfl]
theorem nf_no (h r l : Addr) {m : Str} (h1 : ¬ m = "_links") (h2 : ¬ m = "_rising") (h3 : ¬ m = "_handed") : (nf h r l).lookup m = none := by
  unfold nf
  rw [lookup_putF, if_neg h1, lookup_putF, if_neg h2, lookup_putF, if_neg h3]
  rfl
structure NetAt (C : Addr) (B : Hp) (n : Addr) (ps qs : List Int) (rs : List Row) : Prop where
  ex : ∃ dx h r l ts, B n = some (.ins C dx (nf h r l)) ∧ B h = some (.lst (ps.map V.int)) ∧ B r = some (.lst (qs.map V.int)) ∧ B l = some (.lst ts) ∧ RowsAt B ts rs
  pm : qs.Perm ps
  so : qs.Pairwise (· ≤ ·)
theorem halls_ok {ps : List Int} (h : Places ps) : hallsB (ps.map V.int) = true := by
  unfold hallsB
  rw [List.length_map, decide_eq_true h.l0, decide_eq_true h.l1, decide_eq_true (nodup_ints.mpr h.nd)]
  rw [Bool.true_and, Bool.true_and, Bool.and_true, List.all_map, List.all_eq_true]
  intro x hx
  obtain ⟨h0, h1⟩ := h.bd x hx
  show (decide (0 ≤ x) && decide (x ≤ 999)) = true
  rw [decide_eq_true h0, decide_eq_true h1]
  rfl
theorem links_ok {ps : List Int} {rs : List Row} (h : Roads ps rs) : linksB ps (rs.map fun r => some (rowV r)) = true := by
  unfold linksB
  rw [List.length_map, decide_eq_true h.len, Bool.true_and, List.all_map, List.all_eq_true]
  intro r hr
  have k := h.ok r hr
  show (decide (r.1 ∈ ps) && (decide (r.2.1 ∈ ps) && (!decide (r.1 = r.2.1) && (decide (1 ≤ r.2.2) && decide (r.2.2 ≤ 30))))) = true
  rw [decide_eq_true k.m1, decide_eq_true k.m2, decide_eq_false k.ne, decide_eq_true k.c0, decide_eq_true k.c1]
  rfl
theorem row_int {r : Row} {y : V} (h : y ∈ rowV r) : ∃ i, y = .int i := by
  simp only [rowV, List.mem_cons, List.not_mem_nil, or_false] at h
  rcases h with rfl | rfl | rfl <;> exact ⟨_, rfl⟩
theorem rows_things {B H : Hp} (e : Ex B H) : ∀ {ts : List V} {rs : List Row}, RowsAt B ts rs → ThingsAt H ts (rs.map fun r => some (rowV r))
  | _, _, .nil => .nil
  | _, _, .cons ⟨a, h1, h2⟩ t => .cons ⟨a, h1, e _ _ h2, by show 3 ≤ 1000; decide, fun y hy => by
      obtain ⟨i, rfl⟩ := row_int hy
      exact ⟨"int", .int i⟩⟩ (rows_things e t)
def sp_init (C : Addr) : Sp := fun vs H Q _ => ∃ (dx n a b : Addr) (ps : List Int) (ts : List V) (rs : List Row) (B : Hp), vs = [.ref n, .ref a, .ref b] ∧ H n = some (.ins C dx []) ∧ Ex B H ∧ B n = none ∧ H a = some (.lst (ps.map V.int)) ∧ H b = some (.lst ts) ∧
  Places ps ∧ Roads ps rs ∧ RowsAt B ts rs ∧ ∀ (H' : Hp) (h r l : Addr) (qs : List Int), (∀ x o, x ≠ n → H x = some o → H' x = some o) → H h = none → H r = none → H l = none → H' n = some (.ins C dx (nf h r l)) → H' h = some (.lst (ps.map V.int)) →
    H' r = some (.lst (qs.map V.int)) → qs.Perm ps → qs.Pairwise (· ≤ ·) → H' l = some (.lst ts) → Q .non H'
section
variable {P : Program} {w : World} {K : PySem.W.Frag} {mg : Str → Option Value} {base : Heap}
theorem ok_init (T : Tx K mg) : FnOk P w K mg base CX0 4 T.a_Net___init__ T.d_Net___init__ ["self", "halls", "links"] (sp_init T.c_Net) := by
  have G__are_halls := ok_areh (P := P) (w := w) (base := base) T
  have G__are_links := ok_arel (P := P) (w := w) (base := base) T
  refine T.F_Net___init__.ok sc_Net___init__ (fun vs H Q E h => ?_) (fun cdv A outer s H vs Q E hr h => ?_)
  · obtain ⟨_, _, _, _, _, _, _, _, rfl, _⟩ := h
    rfl
  · obtain ⟨dx, n, a, b, ps, ts, rs, B, rfl, hn, eB, nB, ha, hb, hP, hR, hrs, q⟩ := h
    refine ⟨_, (pss_cons (ps_if (pt_not (pt_val (pe_call G__are_halls (hr.mono (by decide)) (by rfl) T.g__are_halls T.F__are_halls.kp T.b__are_halls .nil pass0 (pa_cons (pv 1) pa_nil)))) (pss_one ps_never) pss_nil)
  (pss_cons (ps_if (pt_not (pt_val (pe_call G__are_links (hr.mono (by decide)) (by rfl) T.g__are_links T.F__are_links.kp T.b__are_links .nil pass0 (pa_cons (pv 2) (pa_cons (pv 1) pa_nil))))) (pss_one ps_never) pss_nil)
  (pss_cons (ps_fld (pv 0) (pe_callTy (listK (K := K) rfl) (by rfl) T.z_list (by decide +kernel) (pa_cons (pv 1) pa_nil)) rfl)
  (pss_cons (ps_fld (pv 0) (pe_callB (sortedK (K := K) rfl) (by rfl) T.z_sorted (by decide +kernel) (pa_cons (pv 1) pa_nil)) rfl)
  (pss_one (ps_fld (pv 0) (pe_callTy (listK (K := K) rfl) (by rfl) T.z_list (by decide +kernel) (pa_cons (pv 2) pa_nil)) rfl)))))), ?_⟩
    have lts := hrs.len
    refine ⟨_, rfl, .ref a, "list", rfl, .lst ha, fun e => absurd rfl e, fun _ => ⟨a, _, rfl, ha, by rw [List.length_map]; have := hP.l1; omega, fun y hy => ?_, fun H1 e1 => ⟨_, rfl, ?_⟩⟩⟩
    · obtain ⟨i, _, rfl⟩ := List.mem_map.mp hy
      exact ⟨"int", .int i⟩
    rw [halls_ok hP]
    refine iteF ?_
    refine ⟨_, rfl, _, rfl, .ref b, "list", a, ps, rfl, .lst (e1 _ _ hb), e1 _ _ ha, fun e => absurd rfl e, fun _ => ⟨b, ts, _, rfl, e1 _ _ hb, by have := hR.len; omega, rows_things (eB.trans e1) hrs, fun H2 e2 => ⟨_, rfl, ?_⟩⟩⟩
    rw [links_ok hR]
    refine iteF ?_
    have e12 := e1.trans e2
    have n2 := e12 _ _ hn
    -- self._handed = list(halls)
    refine ⟨_, rfl, a, _, rfl, .inl (SqL.of (e12 _ _ ha)), fun h hh => ?_⟩
    have nh := ne_of_none n2 hh
    refine ⟨_, rfl, n, T.c_Net, dx, [], rfl, (by rw [upd_ne nh]; exact n2), T.cl_Net, T.n_Net__handed, (by show 0 < 1000; decide), ?_⟩
    -- self._rising = sorted(halls)
    have na : a ≠ n := ne_of ha hn (by intro z; cases z)
    have nah := ne_of_none (e12 _ _ ha) hh
    refine ⟨_, rfl, a, ps, rfl, SqL.of (by rw [upd_ne na, upd_ne nah]; exact e12 _ _ ha), by have := hP.l1; omega, fun qs r hp hso hr' => ?_⟩
    have nrn : r ≠ n := fun z => by rw [z, upd_same] at hr'; cases hr'
    have nrh : r ≠ h := fun z => by rw [z, upd_ne nh.symm, upd_same] at hr'; cases hr'
    have hr0 : H2 r = none := by rw [upd_ne nrn, upd_ne nrh] at hr'; exact hr'
    refine ⟨_, rfl, n, T.c_Net, dx, _, rfl, Eq.trans (upd_ne nrn.symm) upd_same, T.cl_Net, T.n_Net__rising, (by show 1 < 1000; decide), ?_⟩
    -- self._links = list(links)
    have nb : b ≠ n := ne_of hb hn (by intro z; cases z)
    have nbh := ne_of_none (e12 _ _ hb) hh
    have nbr := ne_of_none (e12 _ _ hb) hr0
    refine ⟨_, rfl, b, ts, rfl, .inl (SqL.of (by rw [upd_ne nb, upd_ne nbr, upd_ne nb, upd_ne nbh]; exact e12 _ _ hb)), fun l hl => ?_⟩
    have nln : l ≠ n := fun z => by rw [z, upd_same] at hl; cases hl
    have nlr : l ≠ r := fun z => by rw [z, upd_ne nrn, upd_same] at hl; cases hl
    have nlh : l ≠ h := fun z => by rw [z, upd_ne nh.symm, upd_ne nrh.symm, upd_ne nh.symm, upd_same] at hl; cases hl
    have hl0 : H2 l = none := by rw [upd_ne nln, upd_ne nlr, upd_ne nln, upd_ne nlh] at hl; exact hl
    refine ⟨_, rfl, n, T.c_Net, dx, _, rfl, Eq.trans (upd_ne nln.symm) upd_same, T.cl_Net, T.n_Net__links, (by show 2 < 1000; decide), ?_⟩
    refine q _ h r l qs (fun x o hx e => ?_) (fresh_back e12 hh) (fresh_back e12 hr0) (fresh_back e12 hl0) upd_same ?_ ?_ hp hso ?_
    · have e2' := e12 _ _ e
      rw [upd_ne hx, upd_ne (ne_of_none e2' hl0), upd_ne hx, upd_ne (ne_of_none e2' hr0), upd_ne hx, upd_ne (ne_of_none e2' hh)]
      exact e2'
    · rw [upd_ne nh.symm, upd_ne nlh.symm, upd_ne nh.symm, upd_ne nrh.symm, upd_ne nh.symm, upd_same]
    · rw [upd_ne nrn, upd_ne nlr.symm, upd_ne nrn, upd_same]
    · rw [upd_ne nln, upd_same]
end
end K04

set_option maxHeartbeats 4000000
namespace K04
open PySem PySem.Spec PyProof.Rows L2 Evl MyG
/-! ### what many laws share: texts of data, nets made -/
/-- what can be shown -/
structure Shows (K : PySem.W.Frag) (H : Hp) (x : V) (d : PyData) : Prop where
  dp : Dp K H x d
  sh : d.showable = true
  nd : d.hasDict = false
  dt : d.depth ≤ 40
  ln : d.shown.length ≤ sizeLine
theorem Shows.of {K : PySem.W.Frag} {H : Hp} {x : V} {d : PyData} {k L : Nat} (h : Dp K H x d) (s : Small d k L) (hk : k ≤ 40 := by decide) (hL : L ≤ 16000000 := by decide) : Shows K H x d :=
  ⟨h, s.sh, s.nd, Nat.le_trans s.dp hk, Nat.le_trans (Nat.le_trans s.ln hL) (by rw [sizeLine_eq]; decide)⟩
theorem small_ints {ns : List Int} {N : Nat} (hl : ns.length ≤ N) (hb : ∀ x ∈ ns, x.natAbs < 10 ^ 9) : Small (.list (ns.map PyData.int)) 1 (N * 12 + 3) := by
  have h := small_list (k := 0) (L := 10) (ds := ns.map PyData.int) (fun d hd => by
    obtain ⟨x, hx, rfl⟩ := List.mem_map.mp hd
    exact small_int (hb x hx))
  refine h.mono (Nat.le_refl _) ?_
  rw [List.length_map]
  have := Nat.mul_le_mul_right 12 hl
  omega
theorem fork {te : TE} {σ : L2.St} {H : Hp} {Q : VK} (G : V → Hp → Prop) (h : ∀ K' : VK, (∀ x H', G x H' → K' x H') → te σ H K') (k : ∀ x H', G x H' → Q x H') : te σ H Q := h Q k
/-- a net that was made, and what it was made of, known behind -/
theorem net_made {s c : Addr} {B H3 H' : Hp} {C n dx h r l : Addr} {ps qs : List Int} {ts : List V} {rs : List Row} (W : Wd s c B H3) (hn : H3 n = none) (hdx : H3 dx = none)
    (frame : ∀ x o, x ≠ n → (upd (upd H3 dx (.own n)) n (.ins C dx [])) x = some o → H' x = some o) (hh : (upd (upd H3 dx (.own n)) n (.ins C dx [])) h = none) (hr : (upd (upd H3 dx (.own n)) n (.ins C dx [])) r = none) (hl : (upd (upd H3 dx (.own n)) n (.ins C dx [])) l = none)
    (e1 : H' n = some (.ins C dx (nf h r l))) (e2 : H' h = some (.lst (ps.map V.int))) (e3 : H' r = some (.lst (qs.map V.int))) (pm : qs.Perm ps) (so : qs.Pairwise (· ≤ ·)) (e4 : H' l = some (.lst ts)) (hrs : RowsAt B ts rs) :
    ∃ B3, Ex B B3 ∧ Wd s c B3 H' ∧ NetAt C B3 n ps qs rs ∧ (∀ x, B x = none → H3 x ≠ none → B3 x = none) ∧ Ex H3 H' := by
  have ne : ∀ {p : Addr}, (upd (upd H3 dx (.own n)) n (.ins C dx [])) p = none → p ≠ n ∧ H3 p = none := fun {p} hp => by
    have h1 : p ≠ n := fun z => by rw [z, upd_same] at hp; cases hp
    have h2 : p ≠ dx := fun z => by rw [upd_ne h1, z, upd_same] at hp; cases hp
    rw [upd_ne h1, upd_ne h2] at hp
    exact ⟨h1, hp⟩
  have exH : Ex H3 H' := fun x o e => frame x o (ne_of_none e hn) (by rw [upd_ne (ne_of_none e hn), upd_ne (ne_of_none e hdx)]; exact e)
  obtain ⟨hn1, h3⟩ := ne hh
  obtain ⟨rn1, r3⟩ := ne hr
  obtain ⟨ln1, l3⟩ := ne hl
  have W1 := W.ext exH
  have stn : ∀ {p : Addr}, H3 p = none → p ≠ s ∧ p ≠ c := fun hp => ⟨W.st.ne_s hp, W.st.ne_c hp⟩
  have W2 := W1.know e2 (stn h3).1 (stn h3).2
  have W3 := W2.know e3 (stn r3).1 (stn r3).2
  have W4 := W3.know e4 (stn l3).1 (stn l3).2
  have W5 := W4.know e1 (stn hn).1 (stn hn).2
  have step : ∀ {B : Hp} {p : Addr} {o : HO}, H' p = some o → Ex B H' → Ex B (upd B p o) := fun {B p o} hp eB a u ea => by
    by_cases z : a = p
    · rw [z, upd_same, ← hp, ← z]
      exact eB a u ea
    · rw [upd_ne z]; exact ea
  have eB := (step e2 W1.ex).trans ((step e3 W2.ex).trans ((step e4 W3.ex).trans (step e1 W4.ex)))
  refine ⟨_, eB, W5, ⟨⟨dx, h, r, l, ts, upd_same, ?_, ?_, ?_, hrs.mono eB⟩, pm, so⟩, fun x hx hk => ?_, exH⟩
  · have := W5.ex
    cases q : (upd (upd (upd (upd B h (.lst (ps.map V.int))) r (.lst (qs.map V.int))) l (.lst ts)) n (.ins C dx (nf h r l))) h with
    | some o => rw [← this _ _ q]; exact e2
    | none =>
      exfalso
      by_cases z1 : h = n
      · rw [z1, upd_same] at q; cases q
      by_cases z2 : h = l
      · rw [upd_ne z1, z2, upd_same] at q; cases q
      by_cases z3 : h = r
      · rw [upd_ne z1, upd_ne z2, z3, upd_same] at q; cases q
      · rw [upd_ne z1, upd_ne z2, upd_ne z3, upd_same] at q; cases q
  · have := W5.ex
    cases q : (upd (upd (upd (upd B h (.lst (ps.map V.int))) r (.lst (qs.map V.int))) l (.lst ts)) n (.ins C dx (nf h r l))) r with
    | some o => rw [← this _ _ q]; exact e3
    | none =>
      exfalso
      by_cases z1 : r = n
      · rw [z1, upd_same] at q; cases q
      by_cases z2 : r = l
      · rw [upd_ne z1, z2, upd_same] at q; cases q
      · rw [upd_ne z1, upd_ne z2, upd_same] at q; cases q
  · have := W5.ex
    cases q : (upd (upd (upd (upd B h (.lst (ps.map V.int))) r (.lst (qs.map V.int))) l (.lst ts)) n (.ins C dx (nf h r l))) l with
    | some o => rw [← this _ _ q]; exact e4
    | none =>
      exfalso
      by_cases z1 : l = n
      · rw [z1, upd_same] at q; cases q
      · rw [upd_ne z1, upd_same] at q; cases q
  · have nx : ∀ {p : Addr}, H3 p = none → x ≠ p := fun hp z => hk (by rw [z]; exact hp)
    rw [upd_ne (nx hn), upd_ne (nx l3), upd_ne (nx r3), upd_ne (nx h3)]
    exact hx
def rowD (r : Row) : PyData := .tuple [.int r.1, .int r.2.1, .int r.2.2]
theorem dp_rows {K : PySem.W.Frag} {B : Hp} : ∀ {ts : List V} {rs : List Row}, RowsAt B ts rs → DpAll K B ts (rs.map rowD)
  | _, _, .nil => .nil
  | _, _, .cons ⟨a, h1, h2⟩ t => .cons (by rw [h1]; exact .tup (SqT.of h2) (.cons (.int _) (.cons (.int _) (.cons (.int _) .nil)))) (dp_rows t)
theorem small_row {ps : List Int} {r : Row} (hP : Places ps) (h : RoadOk ps r) : Small (rowD r) 1 39 := by
  have b1 := hP.bd _ h.m1
  have b2 := hP.bd _ h.m2
  have c0 := h.c0
  have c1 := h.c1
  have k := small_tuple (k := 0) (L := 10) (ds := [.int r.1, .int r.2.1, .int r.2.2]) (fun d hd => by
    simp only [List.mem_cons, List.not_mem_nil, or_false] at hd
    rcases hd with rfl | rfl | rfl <;> exact small_int (by omega))
  exact k
theorem small_rows {ps : List Int} {rs : List Row} (hP : Places ps) (hR : Roads ps rs) : Small (.list (rs.map rowD)) 2 (12 * 41 + 3) := by
  have h := small_list (k := 1) (L := 39) (ds := rs.map rowD) (fun d hd => by
    obtain ⟨r, hr, rfl⟩ := List.mem_map.mp hd
    exact small_row hP (hR.ok r hr))
  refine h.mono (Nat.le_refl _) ?_
  rw [List.length_map]
  have := Nat.mul_le_mul_right 41 hR.len
  omega
def sp_law (K : PySem.W.Frag) : Sp := fun vs H Q _ => ∃ (a : Addr) (ns : List Int), vs = [.ref a] ∧ SqL K H a (ns.map V.int) ∧ ns.length ≤ 63 ∧ ∀ H', Q (.bl true) H'
theorem law_start (K : PySem.W.Frag) (H : Hp) (a : Addr) (ns : List Int) (hl : ns.length ≤ 63) (hS : SqL K H a (ns.map V.int)) : sp_law K [.ref a] H (fun v _ => v = .bl true) fun _ _ _ => False := ⟨a, ns, rfl, hS, hl, fun _ => rfl⟩
theorem rows_at {B : Hp} {ts : List V} {rs : List Row} {k : Nat} {r : Row} (h : RowsAt B ts rs) (hr : rs[k]? = some r) : ∃ a, ts[k]? = some (.ref a) ∧ B a = some (.tup (rowV r)) := by
  have hl := h.len
  have hk : k < ts.length := by
    have := (List.getElem?_eq_some_iff.mp hr).1
    omega
  obtain ⟨y, h1, a, h2, h3⟩ := paired_at h (List.getElem?_eq_getElem hk)
  rw [hr] at h1
  obtain rfl := Option.some.inj h1
  exact ⟨a, by rw [List.getElem?_eq_getElem hk, h2], h3⟩
end K04

set_option maxHeartbeats 2000000
namespace K04
open PySem PySem.Spec PyProof.Rows L2 Evl MyG
/-! ### nets alike -/
theorem eqv_row (r r' : Row) : PyData.eqv (rowD r) (rowD r') = decide (r = r') := by
  obtain ⟨a, b, c⟩ := r
  obtain ⟨a', b', c'⟩ := r'
  simp only [rowD, PyData.eqv, PyData.eqvAll, eqv_int]
  by_cases h1 : a = a' <;> by_cases h2 : b = b' <;> by_cases h3 : c = c' <;> simp [h1, h2, h3]
theorem eqvAll_rows : ∀ ns ms : List Row, PyData.eqvAll (ns.map rowD) (ms.map rowD) = decide (ns = ms)
  | [], [] => by simp [PyData.eqvAll]
  | [], m :: ms => by simp [PyData.eqvAll]
  | n :: ns, [] => by simp [PyData.eqvAll]
  | n :: ns, m :: ms => by
    simp only [List.map_cons, PyData.eqvAll, eqvAll_rows ns ms, eqv_row]
    by_cases h : n = m <;> simp [h]
theorem eqv_rows (ns ms : List Row) : PyData.eqv (.list (ns.map rowD)) (.list (ms.map rowD)) = decide (ns = ms) := by
  rw [← eqvAll_rows]
  simp only [PyData.eqv]
theorem shaped_ints (ns : List Int) : SeqAt.shaped (.list (ns.map PyData.int)) = true := by
  have cl : PyData.canLay0 (.list (ns.map PyData.int)) = true := by
    simp only [PyData.canLay0]
    induction ns with
    | nil => rfl
    | cons x r ih => simp only [List.map_cons, PyData.canLayAll0, PyData.canLay0, ih, Bool.and_self]
  have dp : PyData.depthAll (ns.map PyData.int) = 0 := by
    induction ns with
    | nil => rfl
    | cons x r ih => 
      have := ih (by simp only [List.map_cons, PyData.canLay0, PyData.canLayAll0, Bool.and_eq_true] at cl ⊢; exact cl.2)
      simp only [List.map_cons, PyData.depthAll, PyData.depth, this]; rfl
  unfold SeqAt.shaped
  rw [cl, decide_eq_true (show PyData.depth (.list (ns.map PyData.int)) ≤ 64 by simp only [PyData.depth, dp]; decide)]
  rfl
theorem shaped_rows {ps : List Int} {rs : List Row} (hP : Places ps) (hR : Roads ps rs) : SeqAt.shaped (.list (rs.map rowD)) = true := (small_rows hP hR).shaped (by decide)
def sameB (qs qs' : List Int) (rs rs' : List Row) : Bool := decide (qs = qs') && decide (rs = rs')
/-- either no net, or another one -/
def sp_neq (K : PySem.W.Frag) (C : Addr) : Sp := fun vs H Q _ => ∃ (n : Addr) (y : V) (B : Hp) (ps qs : List Int) (rs : List Row), vs = [.ref n, y] ∧ Ex B H ∧ NetAt C B n ps qs rs ∧ Places ps ∧ Roads ps rs ∧
  ((∃ t, AnyT H y t ∧ Q (.bl false) H) ∨ ∃ (m : Addr) (ps' qs' : List Int) (rs' : List Row), y = .ref m ∧ NetAt C B m ps' qs' rs' ∧ Places ps' ∧ Roads ps' rs' ∧ Q (.bl (sameB qs qs' rs rs')) H)
section
variable {P : Program} {w : World} {K : PySem.W.Frag} {mg : Str → Option Value} {base : Heap}
theorem ok_neq (T : Tx K mg) : FnOk P w K mg base CX0 1 T.a_Net___eq__ T.d_Net___eq__ ["self", "other"] (sp_neq K T.c_Net) := by
  refine T.F_Net___eq__.ok sc_Net___eq__ (fun vs H Q E h => ?_) (fun cdv A outer s H vs Q E hr h => ?_)
  · obtain ⟨_, _, _, _, _, _, rfl, _⟩ := h
    rfl
  · obtain ⟨n, y, B, ps, qs, rs, rfl, eB, hN, hP, hR, hy⟩ := h
    refine ⟨_, (pss_one (ps_ret (pe_and (pe_callB (isiK (K := K) rfl) (by rfl) T.z_isinstance (by decide +kernel) (pa_cons (pv 1) (pa_cons (pe_glob (v := .ref T.c_Net) rfl T.g_Net rfl) pa_nil))) (pe_and (pe_cmpR (op_eqK (K := K) rfl hr.units) (fldK (K := K) rfl (pv 0) rfl) (fldK (K := K) rfl (pv 1) rfl) (nomark _)) (pe_one (pe_cmpR (op_eqK (K := K) rfl hr.units) (fldK (K := K) rfl (pv 0) rfl) (fldK (K := K) rfl (pv 1) rfl) (nomark _))))))), ?_⟩
    obtain ⟨dx, h, r, l, ts, hn, hh, hr1, hl, hrs⟩ := id hN.ex
    rcases hy with ⟨t, ht, q⟩ | ⟨m, ps', qs', rs', rfl, hN', hP', hR', q⟩
    · refine un_ret (un_and (un_cb ?_))
      exact ⟨_, rfl, y, .ref T.c_Net, .type t, .ref T.c_Net, false, rfl, .own _, ht.ty, T.q_Net.ko t ht.mem, false, rfl, iteF q⟩
    · obtain ⟨dx', h', r', l', ts', hn', hh', hr1', hl', hrs'⟩ := id hN'.ex
      refine un_ret (un_and (un_cb ?_))
      refine ⟨_, rfl, .ref m, .ref T.c_Net, .ref T.c_Net, .ref T.c_Net, true, rfl, .own _, .base (.ins (eB _ _ hn') T.cl_Net T.q_Net.ca T.q_Net.cn T.q_Net.ct T.q_Net.cm), kit_self, true, rfl, iteT ?_⟩
      refine ⟨_, rfl, n, T.c_Net, dx, _, _, rfl, eB _ _ hn, T.cl_Net, T.n_Net__rising, nf_r _ _ _, _, rfl, m, T.c_Net, dx', _, _, rfl, eB _ _ hn', T.cl_Net, T.n_Net__rising, nf_r _ _ _, ?_⟩
      refine ⟨.list (qs.map PyData.int), .list (qs'.map PyData.int), .lst (SqL.of (eB _ _ hr1)) (dp_ints _), .lst (SqL.of (eB _ _ hr1')) (dp_ints _), shaped_ints _, shaped_ints _, _, rfl, ?_⟩
      rw [eqv_ints]
      unfold sameB at q
      cases d1 : decide (qs = qs') with
      | false =>
        rw [d1] at q
        exact iteF q
      | true =>
        rw [d1] at q
        refine iteT ⟨_, rfl, n, T.c_Net, dx, _, _, rfl, eB _ _ hn, T.cl_Net, T.n_Net__links, nf_l _ _ _, _, rfl, m, T.c_Net, dx', _, _, rfl, eB _ _ hn', T.cl_Net, T.n_Net__links, nf_l _ _ _, ?_⟩
        refine ⟨.list (rs.map rowD), .list (rs'.map rowD), .lst (SqL.of (eB _ _ hl)) (DpAll.ext eB (dp_rows hrs)), .lst (SqL.of (eB _ _ hl')) (DpAll.ext eB (dp_rows hrs')), shaped_rows hP hR, shaped_rows hP' hR', ?_⟩
        rw [eqv_rows]
        exact q
end
/-! ### all that is known beside the state -/
def beside (s c : Addr) (H : Hp) : Hp := fun a => if a = s ∨ a = c then none else H a
theorem beside_of {s c a : Addr} {H : Hp} (h1 : a ≠ s) (h2 : a ≠ c) : beside s c H a = H a := by
  unfold beside
  rw [if_neg (fun h => h.elim h1 h2)]
section
variable {s c a : Addr} {B H : Hp}
theorem Wd.less (W : Wd s c B H) : Ex B (beside s c H) ∧ Wd s c (beside s c H) H := by
  refine ⟨fun a o e => ?_, ⟨fun a o e => ?_, ?_, ?_, W.st⟩⟩
  · have h1 : a ≠ s := fun z => by rw [z, W.ns] at e; cases e
    have h2 : a ≠ c := fun z => by rw [z, W.nc] at e; cases e
    rw [beside_of h1 h2]
    exact W.ex _ _ e
  · unfold beside at e
    split at e
    · cases e
    · exact e
  · unfold beside
    rw [if_pos (Or.inl rfl)]
  · unfold beside
    rw [if_pos (Or.inr rfl)]
theorem Sta.tup_ne {xs : List V} (h : Sta s c H) (e : H a = some (.tup xs)) : a ≠ s ∧ a ≠ c := by
  obtain ⟨cells, i, j, h1, h2, _⟩ := h.ex
  exact ⟨fun z => (by rw [z, h1] at e; cases e), fun z => (by rw [z, h2] at e; cases e)⟩
theorem RowsAt.less (h : Sta s c H) : ∀ {ts : List V} {rs : List Row}, RowsAt H ts rs → RowsAt (beside s c H) ts rs
  | _, _, .nil => .nil
  | _, _, .cons ⟨a, h1, h2⟩ t => .cons ⟨a, h1, by rw [beside_of (h.tup_ne h2).1 (h.tup_ne h2).2]; exact h2⟩ (RowsAt.less h t)
end
theorem NetAt.mono {C n : Addr} {B B' : Hp} {ps qs : List Int} {rs : List Row} (e : Ex B B') (h : NetAt C B n ps qs rs) : NetAt C B' n ps qs rs :=
  ⟨let ⟨dx, h', r, l, ts, h1, h2, h3, h4, h5⟩ := h.ex; ⟨dx, h', r, l, ts, e _ _ h1, e _ _ h2, e _ _ h3, e _ _ h4, h5.mono e⟩, h.pm, h.so⟩
theorem sameB_comm (qs qs' : List Int) (rs rs' : List Row) : sameB qs' qs rs' rs = sameB qs qs' rs rs' := by
  unfold sameB
  rw [decide_eq_decide.mpr (show qs' = qs ↔ qs = qs' from eq_comm), decide_eq_decide.mpr (show rs' = rs ↔ rs = rs' from eq_comm)]
theorem sameB_self (qs : List Int) (rs : List Row) : sameB qs qs rs rs = true := by
  unfold sameB
  rw [decide_eq_true rfl, decide_eq_true rfl]
  rfl
/-- a net is made -/
theorem net_new {s c : Addr} {B H : Hp} {C a b : Addr} {ps : List Int} {ts : List V} {rs : List Row} {Q : VK} (W : Wd s c B H) (ha : H a = some (.lst (ps.map V.int))) (hb : H b = some (.lst ts)) (hP : Places ps) (hR : Roads ps rs) (hrs : RowsAt B ts rs)
    (k : ∀ n B3 qs H', Ex B B3 → Wd s c B3 H' → NetAt C B3 n ps qs rs → Ex H H' → H n = none → Q (.ref n) H') (n dx : Addr) (hn : H n = none) (hdx : H dx = none) (ndx : dx ≠ n) :
    sp_init C [.ref n, .ref a, .ref b] (upd (upd H dx (.own n)) n (.ins C dx [])) (fun v H3 => v = .non ∧ Q (.ref n) H3) E0 := by
  have keep : ∀ {x : Addr} {o : HO}, H x = some o → (upd (upd H dx (.own n)) n (.ins C dx [])) x = some o := fun {x o} e => by
    rw [upd_ne (ne_of_none e hn), upd_ne (ne_of_none e hdx)]; exact e
  refine ⟨dx, n, a, b, ps, ts, rs, B, rfl, upd_same, fun x o e => keep (W.ex x o e), W.none_of hn, keep ha, keep hb, hP, hR, hrs, fun H' h r l qs frame hh hr hl e1 e2 e3 pm so e4 => ⟨rfl, ?_⟩⟩
  obtain ⟨B3, eB3, W3, hN, _, eH⟩ := net_made W hn hdx frame hh hr hl e1 e2 e3 pm so e4 hrs
  exact k n B3 qs H' eB3 W3 hN eH hn
theorem go_net {s c : Addr} {B H : Hp} {C a b : Addr} {ps : List Int} {ts : List V} {rs : List Row} {Q : VK} {σ : L2.St} {i j : Nat} (hi : σ[i]? = some (some (.ref a))) (hj : σ[j]? = some (some (.ref b))) (W : Wd s c B H) (ha : H a = some (.lst (ps.map V.int))) (hb : H b = some (.lst ts)) (hP : Places ps) (hR : Roads ps rs) (hrs : RowsAt B ts rs)
    (k : ∀ n B3 qs H', Ex B B3 → Wd s c B3 H' → NetAt C B3 n ps qs rs → Ex H H' → H n = none → Q (.ref n) H') : tMake C (sp_init C) [] E0 (tCons (tVar i) (tCons (tVar j) tNil)) σ H Q := ⟨_, hi, _, hj, net_new W ha hb hP hR hrs k⟩
theorem go_netL {s c : Addr} {B H : Hp} {C : Addr} {ps : List Int} {ts : List V} {rs : List Row} {Q : VK} {σ : L2.St} {ta tb : TE} (W : Wd s c B H) (ha : EvL ta σ H (ps.map V.int)) (hb : ∀ H1, Ex H H1 → EvL tb σ H1 ts) (hP : Places ps) (hR : Roads ps rs) (hrs : RowsAt B ts rs)
    (k : ∀ n B3 qs H', Ex B B3 → Wd s c B3 H' → NetAt C B3 n ps qs rs → Ex H H' → H n = none → Q (.ref n) H') : tMake C (sp_init C) [] E0 (tCons ta (tCons tb tNil)) σ H Q :=
  ha H (Ex.refl H) _ fun p H1 hp e1 h1 => hb H1 e1 H1 (Ex.refl H1) _ fun q H2 hq e2 h2 => net_new (W.ext (e1.trans e2)) (e2 _ _ h1) h2 hP hR hrs fun n B3 qs H' eB W3 hN e3 hn => k n B3 qs H' eB W3 hN ((e1.trans e2).trans e3) (fresh_back (e1.trans e2) hn)
theorem un_par3 {i j l : Nat} {ta : TA} {D : Ends} {σ : L2.St} {H : Hp} (h : ta σ H fun vs H1 => ∃ u v w, vs = [u, v, w] ∧ D.nx (((σ.set i (some u)).set j (some v)).set l (some w)) H1) : tPar3 i j l ta D σ H := h
section
variable {K : PySem.W.Frag} {C : Addr} {B H : Hp} {n m : Addr} {ps qs ps' qs' : List Int} {rs rs' : List Row}
theorem rv_eqN (eB : Ex B H) (hN : NetAt C B n ps qs rs) (hP : Places ps) (hR : Roads ps rs) (hN' : NetAt C B m ps' qs' rs') (hP' : Places ps') (hR' : Roads ps' rs') : RV (rEqL C (sp_neq K C) E0) (.ref n) (.ref m) H (.bl (sameB qs qs' rs rs')) := by
  intro H1 e Q q
  obtain ⟨dx, _, _, _, _, hn, _⟩ := id hN.ex
  obtain ⟨dx', _, _, _, _, hm, _⟩ := id hN'.ex
  exact ⟨n, dx, _, rfl, (eB.trans e) _ _ hn, .inr ⟨m, dx', _, rfl, (eB.trans e) _ _ hm⟩, n, .ref m, B, ps, qs, rs, rfl, eB.trans e, hN, hP, hR, .inr ⟨m, ps', qs', rs', rfl, hN', hP', hR', _, rfl, q H1 (Ex.refl _)⟩⟩
theorem rv_neN (eB : Ex B H) (hN : NetAt C B n ps qs rs) (hP : Places ps) (hR : Roads ps rs) (hN' : NetAt C B m ps' qs' rs') (hP' : Places ps') (hR' : Roads ps' rs') : RV (rNeL C (sp_neq K C) E0) (.ref n) (.ref m) H (.bl (!sameB qs qs' rs rs')) := by
  intro H1 e Q q
  obtain ⟨dx, _, _, _, _, hn, _⟩ := id hN.ex
  obtain ⟨dx', _, _, _, _, hm, _⟩ := id hN'.ex
  exact ⟨n, dx, _, rfl, (eB.trans e) _ _ hn, .inr ⟨m, dx', _, rfl, (eB.trans e) _ _ hm⟩, n, .ref m, B, ps, qs, rs, rfl, eB.trans e, hN, hP, hR, .inr ⟨m, ps', qs', rs', rfl, hN', hP', hR', _, rfl, q H1 (Ex.refl _)⟩⟩
theorem rv_inN {p : Addr} (eB : Ex B H) (hp : H p = some (.lst [.ref m])) (hne : m ≠ n) (hN : NetAt C B n ps qs rs) (hP : Places ps) (hR : Roads ps rs) (hN' : NetAt C B m ps' qs' rs') (hP' : Places ps') (hR' : Roads ps' rs') : RV (rInI C (sp_neq K C) E0) (.ref n) (.ref p) H (.bl (sameB qs' qs rs' rs)) := by
  intro H1 e Q q
  obtain ⟨dx, _, _, _, _, hn, _⟩ := id hN.ex
  obtain ⟨dx', _, _, _, _, hm, _⟩ := id hN'.ex
  exact ⟨n, m, p, dx, _, dx', _, rfl, rfl, e _ _ hp, (eB.trans e) _ _ hn, (eB.trans e) _ _ hm, hne, m, .ref n, B, ps', qs', rs', rfl, eB.trans e, hN', hP', hR', .inr ⟨n, ps, qs, rs, rfl, hN, hP, hR, _, rfl, e _ _ hp, q H1 (Ex.refl _)⟩⟩
theorem rv_eqT {y : V} {t : String} (eB : Ex B H) (hN : NetAt C B n ps qs rs) (hP : Places ps) (hR : Roads ps rs) (ht : AnyT H y t) : RV (rEqL C (sp_neq K C) E0) (.ref n) y H (.bl false) := by
  intro H1 e Q q
  obtain ⟨dx, _, _, _, _, hn, _⟩ := id hN.ex
  exact ⟨n, dx, _, rfl, (eB.trans e) _ _ hn, .inl ⟨t, ht.ext e⟩, n, y, B, ps, qs, rs, rfl, eB.trans e, hN, hP, hR, .inl ⟨t, ht.ext e, _, rfl, q H1 (Ex.refl _)⟩⟩
theorem rv_neT {y : V} {t : String} (eB : Ex B H) (hN : NetAt C B n ps qs rs) (hP : Places ps) (hR : Roads ps rs) (ht : AnyT H y t) : RV (rNeL C (sp_neq K C) E0) (.ref n) y H (.bl true) := by
  intro H1 e Q q
  obtain ⟨dx, _, _, _, _, hn, _⟩ := id hN.ex
  exact ⟨n, dx, _, rfl, (eB.trans e) _ _ hn, .inl ⟨t, ht.ext e⟩, n, y, B, ps, qs, rs, rfl, eB.trans e, hN, hP, hR, .inl ⟨t, ht.ext e, false, rfl, q H1 (Ex.refl _)⟩⟩
theorem rv_eqTr {y : V} {t : String} (eB : Ex B H) (hN : NetAt C B n ps qs rs) (hP : Places ps) (hR : Roads ps rs) (ht : AnyT H y t) : RV (rEqR C (sp_neq K C) E0) y (.ref n) H (.bl false) := by
  intro H1 e Q q
  obtain ⟨dx, _, _, _, _, hn, _⟩ := id hN.ex
  exact ⟨n, dx, _, t, rfl, (eB.trans e) _ _ hn, ht.ext e, n, y, B, ps, qs, rs, rfl, eB.trans e, hN, hP, hR, .inl ⟨t, ht.ext e, _, rfl, q H1 (Ex.refl _)⟩⟩
end
theorem un_par2 {i j : Nat} {ta : TA} {D : Ends} {σ : L2.St} {H : Hp} (h : ta σ H fun vs H1 => ∃ u v, vs = [u, v] ∧ D.nx ((σ.set i (some u)).set j (some v)) H1) : tPar i j ta D σ H := h
end K04

set_option maxHeartbeats 4000000
namespace K04
open PySem PySem.Spec PyProof.Rows L2 Evl MyG
/-! ### rows put together -/
theorem RowsAt.append {B : Hp} : ∀ {ts us : List V} {rs qs : List Row}, RowsAt B ts rs → RowsAt B us qs → RowsAt B (ts ++ us) (rs ++ qs)
  | _, _, _, _, .nil, k => k
  | _, _, _, _, .cons h t, k => .cons h (RowsAt.append t k)
theorem RowsAt.take {B : Hp} : ∀ (k : Nat) {ts : List V} {rs : List Row}, RowsAt B ts rs → RowsAt B (ts.take k) (rs.take k)
  | 0, _, _, _ => by simp only [List.take_zero]; exact .nil
  | k + 1, _, _, .nil => .nil
  | k + 1, _, _, .cons h t => .cons h (RowsAt.take k t)
theorem RowsAt.drop {B : Hp} : ∀ (k : Nat) {ts : List V} {rs : List Row}, RowsAt B ts rs → RowsAt B (ts.drop k) (rs.drop k)
  | 0, _, _, h => h
  | k + 1, _, _, .nil => .nil
  | k + 1, _, _, .cons h t => RowsAt.drop k t
theorem RowsAt.reverse {B : Hp} : ∀ {ts : List V} {rs : List Row}, RowsAt B ts rs → RowsAt B ts.reverse rs.reverse
  | _, _, .nil => .nil
  | _, _, .cons h t => by
    rw [List.reverse_cons, List.reverse_cons]
    exact RowsAt.append (RowsAt.reverse t) (.cons h .nil)
def EvR (te : TE) (σ : L2.St) (H : Hp) (rs : List Row) : Prop := ∀ H1, Ex H H1 → ∀ Q : VK, (∀ p us H2, H1 p = none → Ex H1 H2 → H2 p = some (.lst us) → RowsAt H2 us rs → Q (.ref p) H2) → te σ H1 Q
section
variable {K : PySem.W.Frag} {σ : L2.St} {H : Hp} {ta tb te : TE} {rs qs : List Row}
theorem er_cat (h1 : EvR ta σ H rs) (h2 : ∀ H1, Ex H H1 → EvR tb σ H1 qs) (hl : rs.length + qs.length ≤ 1000) : EvR (tOp rCat ta tb) σ H (rs ++ qs) := fun H1 e Q q =>
  h1 H1 e _ fun p us H2 hp e2 hu hr => h2 H2 (e.trans e2) H2 (Ex.refl _) _ fun p' us' H3 hp' e3 hu' hr' => ⟨p, p', us, us', rfl, rfl, e3 _ _ hu, hu', (by rw [hr.len, hr'.len]; exact Nat.le_of_lt (small1000 hl)), fun t ht =>
    q t _ _ (fresh_back (e2.trans e3) ht) ((e2.trans e3).trans (Ex.new ht)) upd_same ((RowsAt.append (hr.mono e3) hr').mono (Ex.new ht))⟩
theorem er_lo {a : Addr} {ts : List V} {tl : TO} {k : Nat} (ha : Ev te σ H (.ref a)) (hk : EvO tl σ H (some (k : Int))) (hs : H a = some (.lst ts)) (hr : RowsAt H ts rs) (hkl : k ≤ rs.length) : EvR (tSl (rSlL K) te tNoPart tl) σ H (rs.take k) := fun H1 e Q q =>
  el_sl (lo := none) (hi := some (k : Int)) ha (fun H2 _ Q q => q H2 (Ex.refl _)) hk (SqL.of hs) H1 e Q fun p H2 hp e2 h2 => q p _ _ hp e2 h2 (by
    rw [cut_lo _ (by rw [hr.len]; exact hkl)]
    exact (hr.mono (e.trans e2)).take k)
theorem er_hi {a : Addr} {ts : List V} {tl : TO} {k : Nat} (ha : Ev te σ H (.ref a)) (hk : EvO tl σ H (some (k : Int))) (hs : H a = some (.lst ts)) (hr : RowsAt H ts rs) (hkl : k ≤ rs.length) : EvR (tSl (rSlL K) te tl tNoPart) σ H (rs.drop k) := fun H1 e Q q =>
  el_sl (lo := some (k : Int)) (hi := none) ha hk (fun H2 _ Q q => q H2 (Ex.refl _)) (SqL.of hs) H1 e Q fun p H2 hp e2 h2 => q p _ _ hp e2 h2 (by
    rw [cut_hi _ (by rw [hr.len]; exact hkl)]
    exact (hr.mono (e.trans e2)).drop k)
theorem er_one {r : Row} {as : TA} (h : EvA as σ H (rowV r)) : EvR (tLst (tCons (tTup as) tNil)) σ H [r] := fun H1 e Q q =>
  h H1 e _ fun H2 e2 => ⟨by show 3 ≤ sizeLine; decide, fun u hu => ⟨by show 1 ≤ sizeLine; decide, fun p hp => q p _ _ (fresh_back (e2.trans (Ex.new hu)) hp) ((e2.trans (Ex.new hu)).trans (Ex.new hp)) upd_same (.cons ⟨u, rfl, Ex.new hp _ _ upd_same⟩ .nil)⟩⟩
theorem go_R {Q : VK} (h : EvR te σ H rs) (k : ∀ p us H1, H p = none → Ex H H1 → H1 p = some (.lst us) → RowsAt H1 us rs → Q (.ref p) H1) : te σ H Q := h H (Ex.refl H) Q k
end
end K04

set_option maxHeartbeats 4000000
namespace K04
open PySem PySem.Spec PyProof.Rows L2 Evl MyG
/-! ### halls and links, the same or otherwise -/
theorem places_perm {xs ps : List Int} (h : xs.Perm ps) (hP : Places ps) : Places xs := ⟨h.nodup_iff.mpr hP.nd, by rw [h.length_eq]; exact hP.l0, by rw [h.length_eq]; exact hP.l1, fun x hx => hP.bd x (h.mem_iff.mp hx)⟩
theorem road_perm {xs ps : List Int} {r : Row} (h : ∀ x ∈ ps, x ∈ xs) (k : RoadOk ps r) : RoadOk xs r := ⟨h _ k.m1, h _ k.m2, k.ne, k.c0, k.c1⟩
theorem roads_sub {xs ps : List Int} {rs rs' : List Row} (h : ∀ x ∈ ps, x ∈ xs) (hR : Roads ps rs) (hl : rs'.length ≤ 12) (hs : ∀ r ∈ rs', r ∈ rs ∨ RoadOk xs r) : Roads xs rs' := ⟨hl, fun r hr => (hs r hr).elim (fun k => road_perm h (hR.ok r k)) id⟩
theorem len_sub : ∀ (ys xs : List Int), ys.Nodup → (∀ y ∈ ys, y ∈ xs) → ys.length ≤ xs.length
  | [], _, _, _ => Nat.zero_le _
  | y :: ys, xs, nd, h => by
    rw [List.nodup_cons] at nd
    have hy := h y (List.mem_cons_self ..)
    have k := len_sub ys (xs.erase y) nd.2 (fun z hz => (List.mem_erase_of_ne (fun e => nd.1 (by rw [← e]; exact hz))).mpr (h z (List.mem_cons_of_mem _ hz)))
    rw [List.length_erase_of_mem hy] at k
    have := List.length_pos_of_mem hy
    rw [List.length_cons]
    omega
theorem erase_perm : ∀ (xs : List Int) (j : Nat) (h : j < xs.length), (xs[j] :: xs.eraseIdx j).Perm xs
  | x :: xs, 0, _ => .refl _
  | x :: xs, j + 1, h => by
    show (xs[j]'(by simpa using h) :: x :: xs.eraseIdx j).Perm (x :: xs)
    exact (List.Perm.swap ..).trans (List.Perm.cons x (erase_perm xs j (by simpa using h)))
def freeF (xs : List Int) (i : Nat) : Bool := !decide ((i : Int) ∈ xs)
theorem first_free {xs : List Int} (h : xs.length < 8) : ∃ z rest, given 10 (freeF xs) (fun k => V.int (k : Nat)) = V.int z :: rest ∧ ¬ z ∈ xs ∧ 0 ≤ z ∧ z ≤ 9 := by
  unfold given
  cases e : (List.range 10).filter (freeF xs) with
  | nil =>
    exfalso
    have all : ∀ y ∈ ([0, 1, 2, 3, 4, 5, 6, 7, 8, 9] : List Int), y ∈ xs := by
      intro y hy
      obtain ⟨i, hi, rfl⟩ : ∃ i : Nat, i < 10 ∧ y = (i : Int) := by
        simp only [List.mem_cons, List.not_mem_nil, or_false] at hy
        exact ⟨y.toNat, by omega, by omega⟩
      have k := List.filter_eq_nil_iff.mp e i (List.mem_range.mpr hi)
      unfold freeF at k
      simpa using k
    have := len_sub _ xs (by decide) all
    simp only [List.length_cons, List.length_nil] at this
    omega
  | cons i r =>
    have hm : i ∈ (List.range 10).filter (freeF xs) := by rw [e]; exact List.mem_cons_self ..
    obtain ⟨h1, h2⟩ := List.mem_filter.mp hm
    have h3 := List.mem_range.mp h1
    refine ⟨(i : Int), _, rfl, ?_, by omega, by omega⟩
    unfold freeF at h2
    simpa using h2
theorem places_more {xs : List Int} {z : Int} (hP : Places xs) (hl : xs.length < 8) (hz : ¬ z ∈ xs) (h0 : 0 ≤ z) (h1 : z ≤ 9) : Places (xs ++ [z]) := ⟨nodup_snoc hP.nd hz, by rw [List.length_append]; have := hP.l0; omega, by rw [List.length_append, List.length_singleton]; omega, fun x hx => by
  rcases List.mem_append.mp hx with hx | hx
  · exact hP.bd x hx
  · obtain rfl := List.mem_singleton.mp hx
    omega⟩
def sp_other : Sp := fun vs H Q _ => ∃ (s c p r : Addr) (B : Hp) (ps : List Int) (ts : List V) (rs : List Row), vs = [.ref s, .ref p, .ref r] ∧ Wd s c B H ∧ B p = some (.lst (ps.map V.int)) ∧ B r = some (.lst ts) ∧ RowsAt B ts rs ∧ Places ps ∧ Roads ps rs ∧
  ∀ t a b ps' ts' rs' B' H', Ex B B' → B' t = some (.tup [.ref a, .ref b]) → B' a = some (.lst (ps'.map V.int)) → B' b = some (.lst ts') → RowsAt B' ts' rs' → Places ps' → Roads ps' rs' → Wd s c B' H' → Q (.ref t) H'
section
variable {P : Program} {w : World} {K : PySem.W.Frag} {mg : Str → Option Value} {base : Heap}
theorem ok_other (T : Tx K mg) : FnOk P w K mg base CX0 2 T.a_l_other T.d_l_other ["_law_state_here", "_law_places_here", "_law_roads_here"] sp_other := by
  have G_l_draw := ok_draw (P := P) (w := w) (base := base) T
  refine T.F_l_other.ok sc_l_other (fun vs H Q E h => ?_) (fun cdv A outer s H vs Q E hr h => ?_)
  · obtain ⟨_, _, _, _, _, _, _, _, rfl, _⟩ := h
    rfl
  · obtain ⟨s, c, p, r, B, ps, ts, rs, rfl, W0, hp, hr1, hrs, hP, hR, q⟩ := h
    refine ⟨_, (pss_cons (ps_par (i := 3) (j := 4) rfl sc_l_other.nd rfl rfl (by decide) rfl rfl (pa_cons (pe_call G_l_draw (hr.mono (by decide)) (by rfl) T.g_l_draw T.F_l_draw.kp T.b_l_draw .nil pass0 (pa_cons (pv 0) (pa_cons pe_int pa_nil))) (pa_cons (pe_call G_l_draw (hr.mono (by decide)) (by rfl) T.g_l_draw T.F_l_draw.kp T.b_l_draw .nil pass0 (pa_cons (pv 0) (pa_cons (pe_callB (call_max2 rfl) (by rfl) T.z_max (by decide +kernel) (pa_cons pe_int (pa_cons (pe_callB (lenK (K := K) rfl) (by rfl) T.z_len (by decide +kernel) (pa_cons (pv 2) pa_nil)) pa_nil))) pa_nil))) pa_nil)) (by rfl))
  (pss_cons (ps_asg (pe_tup (pa_cons (pe_callTy (listK (K := K) rfl) (by rfl) T.z_list (by decide +kernel) (pa_cons (pv 1) pa_nil)) (pa_cons (pe_lst pa_nil) pa_nil))) (pg_tup rfl (pgs_cons (pg_name (i := 5) sc_l_other.nd rfl (Or.inl rfl)) (pgs_cons (pg_name (i := 6) sc_l_other.nd rfl (Or.inr rfl)) pgs_nil))))
  (pss_cons (ps_while PassesOwn.never (pt_cmpR (op_neK (K := K) rfl hr.units) (pv 5) (pe_lst pa_nil) (nomark _)) (pss_one (ps_expr (pe_bm PySem.F.plainAttrs_list PySem.F.slot_list_append PySem.F.type_list_append mt_append (pv 6) (pa_cons (pe_bm PySem.F.plainAttrs_list PySem.F.slot_list_pop PySem.F.type_list_pop mt_popAt (pv 5) (pa_cons (pe_call G_l_draw (hr.mono (by decide)) (by rfl) T.g_l_draw T.F_l_draw.kp T.b_l_draw .nil pass0 (pa_cons (pv 0) (pa_cons (pe_callB (lenK (K := K) rfl) (by rfl) T.z_len (by decide +kernel) (pa_cons (pv 5) pa_nil)) pa_nil))) pa_nil)) pa_nil)))))
  (pss_cons (ps_if (pt_cmpR op_lt (pv 3) pe_int (nomark _)) (pss_one (ps_ret (pe_tup (pa_cons (pv 6) (pa_cons (pe_callTy (listK (K := K) rfl) (by rfl) T.z_list (by decide +kernel) (pa_cons (pv 2) pa_nil)) pa_nil))))) pss_nil)
  (pss_cons (ps_if (PW.pt (pw_and (pt_cmpR op_eq (pv 3) pe_int (nomark _)) (pw_and1 (pt_cmpR op_lt (pe_callB (lenK (K := K) rfl) (by rfl) T.z_len (by decide +kernel) (pa_cons (pv 6) pa_nil)) pe_int (nomark _))))) (pss_one (ps_ret (pe_tup (pa_cons (pe_op op_cat (pv 6) (pe_lst (pa_cons (pe_ix (ix_listK (K := K) rfl) (pe_lc (own := [("_law_one", 7)]) (g := (gName 7)) rfl sc_l_other.nd (pi_range1 rfl T.z_range (pa_cons pe_int pa_nil)) (blkOk_by (N := n_l_other) (sc := defScope s_l_other) (by decide +kernel)) (fun _ _ _ _ _ => (pg_name (i := 7) sc_l_other.nd rfl (Or.inl rfl))) (fun _ _ _ _ _ => (pts_one (pt_cmpR (op_niK (K := K) rfl) (pv 7) (pv 6) (by rfl)))) (fun _ _ _ _ _ => (pv 7))) pe_int (fun _ _ => rfl)) pa_nil))) (pa_cons (pv 2) pa_nil))))) pss_nil)
  (pss_cons (ps_if (PW.pt (pw_and (pt_cmpR op_eq (pv 3) pe_int (nomark _)) (pw_and (pt_cmpR op_gt (pe_callB (lenK (K := K) rfl) (by rfl) T.z_len (by decide +kernel) (pa_cons (pv 6) pa_nil)) pe_int (nomark _)) (pw_and1 (pt_cmpR op_lt (pe_callB (lenK (K := K) rfl) (by rfl) T.z_len (by decide +kernel) (pa_cons (pv 2) pa_nil)) pe_int (nomark _)))))) (pss_one (ps_ret (pe_tup (pa_cons (pv 6) (pa_cons (pe_op op_cat (pe_op op_cat (pe_slice (sl_listK (K := K) rfl) (pv 2) po_none (po_some (pv 4))) (pe_lst (pa_cons (pe_tup (pa_cons (pe_ix (ix_listK (K := K) rfl) (pv 6) pe_int (fun _ _ => rfl)) (pa_cons (pe_ix (ix_listK (K := K) rfl) (pv 6) pe_int (fun _ _ => rfl)) (pa_cons pe_int pa_nil)))) pa_nil))) (pe_slice (sl_listK (K := K) rfl) (pv 2) (po_some (pv 4)) po_none)) pa_nil))))) pss_nil)
  (pss_cons (ps_if (pt_cmpR (op_eqK (K := K) rfl hr.units) (pv 2) (pe_lst pa_nil) (nomark _)) (pss_one (ps_ret (pe_tup (pa_cons (pv 6) (pa_cons (pv 2) pa_nil))))) pss_nil)
  (pss_cons (ps_asg (pe_ix (ix_listK (K := K) rfl) (pv 2) (pv 4) (fun _ _ => rfl)) (pg_tup rfl (pgs_cons (pg_name (i := 7) sc_l_other.nd rfl (Or.inl rfl)) (pgs_cons (pg_name (i := 8) sc_l_other.nd rfl (Or.inl rfl)) (pgs_cons (pg_name (i := 9) sc_l_other.nd rfl (Or.inl rfl)) pgs_nil)))))
  (pss_cons (ps_if (pt_cmpR op_eq (pv 3) pe_int (nomark _)) (pss_one (ps_ret (pe_tup (pa_cons (pv 6) (pa_cons (pe_op op_cat (pe_op op_cat (pe_slice (sl_listK (K := K) rfl) (pv 2) po_none (po_some (pv 4))) (pe_lst (pa_cons (pe_tup (pa_cons (pv 8) (pa_cons (pv 7) (pa_cons (pv 9) pa_nil)))) pa_nil))) (pe_slice (sl_listK (K := K) rfl) (pv 2) (po_some (pe_op op_add (pv 4) pe_int)) po_none)) pa_nil))))) pss_nil)
  (pss_cons (ps_if (pt_cmpR op_eq (pv 3) pe_int (nomark _)) (pss_one (ps_ret (pe_tup (pa_cons (pv 6) (pa_cons (pe_op op_cat (pe_op op_cat (pe_slice (sl_listK (K := K) rfl) (pv 2) po_none (po_some (pv 4))) (pe_lst (pa_cons (pe_tup (pa_cons (pv 7) (pa_cons (pv 8) (pa_cons (pe_op op_add (pe_op op_modN (pv 9) pe_int) pe_int) pa_nil)))) pa_nil))) (pe_slice (sl_listK (K := K) rfl) (pv 2) (po_some (pe_op op_add (pv 4) pe_int)) po_none)) pa_nil))))) pss_nil)
  (pss_cons (ps_if (pt_cmpR op_eq (pv 3) pe_int (nomark _)) (pss_one (ps_ret (pe_tup (pa_cons (pv 6) (pa_cons (pe_op op_cat (pe_slice (sl_listK (K := K) rfl) (pv 2) po_none (po_some (pv 4))) (pe_slice (sl_listK (K := K) rfl) (pv 2) (po_some (pe_op op_add (pv 4) pe_int)) po_none)) pa_nil))))) pss_nil)
  (pss_one (ps_ret (pe_tup (pa_cons (pv 6) (pa_cons (revLK (K := K) rfl (pv 2)) pa_nil)))))))))))))))), ?_⟩
    have lts := hrs.len
    have l12 := hR.len
    have l8 := hP.l1
    -- way, at
    refine ⟨_, rfl, s, c, 9, rfl, W0.st, by decide, by decide, fun way H1 w0 w1 st1 off1 => ?_⟩
    have W1 := W0.off st1 off1
    obtain ⟨m, hm, hm0, hm3, hm1⟩ : ∃ m : Int, (if (ts.length : Int) > 1 then (ts.length : Int) else 1) = m ∧ 0 < m ∧ (m = 1 ∨ m = (rs.length : Int)) ∧ (rs ≠ [] → m = rs.length) := by
      refine ⟨_, rfl, ?_, ?_, fun hne => ?_⟩
      · split <;> omega
      · split <;> omega
      · have := List.length_pos_iff.mpr hne
        split <;> omega
    have hm2 : m ≤ 12 := by
      rw [← hm]
      split <;> omega
    refine ⟨_, rfl, _, rfl, r, _, rfl, .inl (SqL.of (W1.ex _ _ hr1)), 1, _, rfl, s, c, m, by rw [hm]; rfl, W1.st, hm0, by omega, fun at_ H2 a0 a1 st2 off2 => ⟨_, _, rfl, ?_⟩⟩
    have W2 := W1.off st2 off2
    have hka : at_.toNat ≤ rs.length := by omega
    have ea : at_ = (at_.toNat : Int) := by omega
    -- left, some = list(places), []
    refine ⟨_, rfl, p, _, rfl, .inl (SqL.of (W2.ex _ _ hp)), fun l hl => ⟨Nat.zero_le _, fun k hk => ⟨by show 2 ≤ sizeLine; decide, fun u hu => ?_⟩⟩⟩
    have ls := W2.st.ne_s hl
    have lc := W2.st.ne_c hl
    have lB := W2.none_of hl
    have W3 := W2.ext (Ex.new (o := .lst (ps.map V.int)) hl)
    have ks := W3.st.ne_s hk
    have kc := W3.st.ne_c hk
    have kB := W3.none_of hk
    have lk : l ≠ k := ne_of_none (show (upd H2 l (.lst (ps.map V.int))) l = some _ from upd_same) hk
    have W4 := W3.ext (Ex.new (o := .lst []) hk)
    have W5 := W4.ext (Ex.new (o := .tup [.ref l, .ref k]) hu)
    have l5 := Ex.new (o := .tup [.ref l, .ref k]) hu _ _ (Ex.new (o := .lst []) hk _ _ (show (upd H2 l (.lst (ps.map V.int))) l = some (.lst (ps.map V.int)) from upd_same))
    have k5 := Ex.new (o := .tup [.ref l, .ref k]) hu _ _ (show (upd (upd H2 l (.lst (ps.map V.int))) k (.lst [])) k = some (.lst []) from upd_same)
    refine ⟨u, _, rfl, SqT.of upd_same, rfl, _, _, rfl, _, _, rfl, rfl, ?_⟩
    -- while left != []
    refine ⟨fun n σ H' => ∃ xs ys : List Int, n = xs.length ∧ σ = [some (.ref s), some (.ref p), some (.ref r), some (.int way), some (.int at_), some (.ref l), some (.ref k), none, none, none] ∧ Wd s c B H' ∧ H' l = some (.lst (xs.map V.int)) ∧ H' k = some (.lst (ys.map V.int)) ∧ (ys ++ xs).Perm ps,
      ⟨ps.length, ps, [], rfl, rfl, W5, l5, k5, by rw [List.nil_append]⟩, ?_⟩
    rintro n σ H6 ⟨xs, ys, rfl, rfl, W6, l6, k6, pm⟩
    have plen := pm.length_eq
    rw [List.length_append] at plen
    refine ⟨_, rfl, Nat.zero_le _, fun u hu => ?_⟩
    have W7 := W6.ext (Ex.new (o := .lst []) hu)
    have l7 := Ex.new (o := .lst []) hu _ _ l6
    have k7 := Ex.new (o := .lst []) hu _ _ k6
    have ev0 := eqv_ints xs []
    refine ⟨.list (xs.map PyData.int), .list [], .lst (SqL.of l7) (dp_ints _), .lst (SqL.of upd_same) .nil, shaped_ints _, rfl, _, rfl, ?_⟩
    rw [show PyData.eqv (.list (xs.map PyData.int)) (.list []) = decide (xs = []) from ev0]
    by_cases hx : xs = []
    · rw [decide_eq_true hx]
      refine iteF ?_
      subst hx
      rw [List.append_nil] at pm
      have hP' := places_perm pm hP
      have hsub : ∀ x ∈ ps, x ∈ ys := fun x hx => pm.mem_iff.mpr hx
      have hR' : Roads ys rs := roads_sub hsub hR l12 fun r hr => .inl hr
      have fin : ∀ {H' : Hp} {a b : Addr} {us : List V} {rs' : List Row} {ps' : List Int}, Wd s c B H' → a ≠ s → a ≠ c → b ≠ s → b ≠ c → H' a = some (.lst (ps'.map V.int)) → H' b = some (.lst us) → RowsAt H' us rs' → Places ps' → Roads ps' rs' →
          2 ≤ sizeLine ∧ ∀ t, H' t = none → Q (.ref t) (upd H' t (.tup [.ref a, .ref b])) := fun {H' a b us rs' ps'} W as ac bs bc ha hb hrs' hP1 hR1 => ⟨by show 2 ≤ sizeLine; decide, fun t ht => by
        have e := Ex.new (o := .tup [.ref a, .ref b]) ht
        have W' := W.ext e
        refine q t a b ps' us rs' (beside s c (upd H' t (.tup [.ref a, .ref b]))) _ W'.less.1 ?_ ?_ ?_ ((hrs'.mono e).less W'.st) hP1 hR1 W'.less.2
        · rw [beside_of (W.st.ne_s ht) (W.st.ne_c ht)]
          exact upd_same
        · rw [beside_of as ac]
          exact e _ _ ha
        · rw [beside_of bs bc]
          exact e _ _ hb⟩
      have rne : r ≠ s ∧ r ≠ c := ⟨fun z => (by rw [z, W0.ns] at hr1; cases hr1), fun z => (by rw [z, W0.nc] at hr1; cases hr1)⟩
      -- if way < 3
      refine q_when (et_test (ev_op (ev_var rfl) ev_c rv_I0)) (fun _ H8 e8 => ?_) (fun _ H8 e8 => ?_)
      · have W8 := W7.ext e8
        refine ⟨_, rfl, _, rfl, r, _, rfl, .inl (SqL.of (W8.ex _ _ hr1)), fun b hb => ?_⟩
        have e9 := Ex.new (o := .lst ts) hb
        exact fin (W8.ext e9) ks kc (W8.st.ne_s hb) (W8.st.ne_c hb) (e9 _ _ (e8 _ _ k7)) upd_same (hrs.mono (W8.ext e9).ex) hP' hR'
      have W8 := W7.ext e8
      have k8 := e8 _ _ k7
      -- if way == 3 and len(some) < 8
      refine q_when (et_and (et_test (ev_op (ev_var rfl) ev_c (rv_eq rfl))) (fun _ => et_test (ev_op (ev_lenQ (ev_var rfl) k8) ev_c rv_I0))) (fun hb H9 e9 => ?_) (fun _ H9 e9 => ?_)
      · rw [Bool.and_eq_true, List.length_map] at hb
        have hl8 : ys.length < 8 := by
          have := of_decide_eq_true hb.2
          omega
        obtain ⟨z, rest, hz, hz1, hz2, hz3⟩ := first_free hl8
        have k9 := e9 _ _ k8
        have W9 := W8.ext e9
        refine un_ret (un_tup (un_cons (go_L (el_cat (ev_var rfl) k9 (fun H10 e10 => el_lst (ea_cons (ev_opL1 (el_lcR1 (n := 10) (freeF ys) (fun i => V.int (i : Nat)) (ea_cons ev_c ea_nil) (by decide) (fun _ => rfl) (fun i H11 e11 hi => ?_) (fun i H11 e11 hi _ => ev_var rfl)) (fun _ _ => ev_c) (fun p1 H11 hp1 _ => rv_ixL (v := .int z) (SqL.of hp1) ?_)) ea_nil) (by show 1 ≤ 100000; decide)) ?_) (fun a H10 ha e10 h10 => ?_))))
        · refine et_test (ev_is (ev_op (ev_var rfl) (ev_var rfl) (rv_niL (SqL.of (e11 _ _ (e10 _ _ k9))) rfl (flat_ints ys))) ?_)
          rw [inV_ints]
          rfl
        · rw [show ((10 : Int)).toNat = 10 from rfl, hz]
          exact atI_nat (j := 0) rfl
        · rw [List.length_map, List.length_singleton]
          omega
        · have W10 := W9.ext e10
          refine ⟨_, rfl, fin W10 (W9.st.ne_s ha) (W9.st.ne_c ha) rne.1 rne.2 (ps' := ys ++ [z]) ?_ (W10.ex _ _ hr1) (hrs.mono W10.ex) (places_more hP' hl8 hz1 hz2 hz3) (roads_sub (fun x hx => List.mem_append_left _ (hsub x hx)) hR l12 fun r hr => .inl hr)⟩
          rw [h10, List.map_append]
          rfl
      have W9 := W8.ext e9
      have k9 := e9 _ _ k8
      have r9 := W9.ex _ _ hr1
      have hrs9 := hrs.mono W9.ex
      -- if way == 4 and len(some) > 1 and len(roads) < 12
      refine q_when (et_and (et_test (ev_op (ev_var rfl) ev_c (rv_eq rfl))) (fun _ => et_and (et_test (ev_op (ev_lenQ (ev_var rfl) k9) ev_c rv_I0)) (fun _ => et_test (ev_op (ev_lenQ (ev_var rfl) r9) ev_c rv_I0)))) (fun hb H10 e10 => ?_) (fun _ H10 e10 => ?_)
      · rw [Bool.and_eq_true, Bool.and_eq_true, List.length_map] at hb
        have hy2 : 2 ≤ ys.length := by
          have := of_decide_eq_true hb.2.1
          omega
        have hr12 : rs.length < 12 := by
          have := of_decide_eq_true hb.2.2
          omega
        have g0 : ys[0]? = some ys[0] := List.getElem?_eq_getElem (by omega)
        have g1 : ys[1]? = some ys[1] := List.getElem?_eq_getElem (by omega)
        have k10 := e10 _ _ k9
        have r10 := e10 _ _ r9
        have hrs10 := hrs9.mono e10
        have W10 := W9.ext e10
        have xx : ∀ {σ : L2.St} {H' : Hp}, Ex H10 H' → σ[6]? = some (some (.ref k)) → ∀ {i : Nat} {y : Int}, ys[i]? = some y → Ev (tOp (rIxL K) (tVar 6) (tC (.int (i : Nat)))) σ H' (.int y) := fun {σ H'} e hs {i y} hi =>
          ev_op (ev_var hs) ev_c (rv_ixL (SqL.of (e _ _ k10)) (atI_nat (by rw [List.getElem?_map, hi]; rfl)))
        refine ⟨_, rfl, un_cons (go_R (er_cat (er_cat (er_lo (k := at_.toNat) (ev_var rfl) (eo_some (ev_var (by rw [← ea]; rfl))) r10 hrs10 hka) (fun H11 e11 => er_one (r := (ys[0], ys[1], 1)) (ea_cons (xx e11 rfl g0) (ea_cons (xx e11 rfl g1) (ea_cons ev_c ea_nil)))) ?_) (fun H11 e11 => er_hi (k := at_.toNat) (ev_var rfl) (eo_some (ev_var (by rw [← ea]; rfl))) (e11 _ _ r10) (hrs10.mono e11) hka) ?_) (fun b us H11 hb e11 hb1 hus => ?_))⟩
        · rw [List.length_take, List.length_singleton]; omega
        · rw [List.length_append, List.length_take, List.length_drop, List.length_singleton]; omega
        · have W11 := W10.ext e11
          refine fin W11 ks kc (W10.st.ne_s hb) (W10.st.ne_c hb) (e11 _ _ k10) hb1 hus hP' (roads_sub hsub hR ?_ fun r hr => ?_)
          · rw [List.length_append, List.length_append, List.length_take, List.length_drop, List.length_singleton]; omega
          · rcases List.mem_append.mp hr with hr | hr
            · rcases List.mem_append.mp hr with hr | hr
              · exact .inl (List.mem_of_mem_take hr)
              · obtain rfl := List.mem_singleton.mp hr
                exact .inr ⟨List.getElem_mem _, List.getElem_mem _, fun e => absurd (nd_ix hP'.nd g0 (by rw [g1]; exact congrArg some e.symm)) (by decide), by show (1 : Int) ≤ 1; decide, by show (1 : Int) ≤ 30; decide⟩
            · exact .inl (List.mem_of_mem_drop hr)
      have W10 := W9.ext e10
      have k10 := e10 _ _ k9
      have r10 := e10 _ _ r9
      have hrs10 := hrs9.mono e10
      -- if roads == []
      refine q_when (b := decide (rs = [])) (et_test (ev_opL (ev_var rfl) (el_lst ea_nil (by decide)) (fun p1 H11 hp1 e11 => fun H12 e12 Q q => ?_))) (fun hb H11 e11 => ?_) (fun hb H11 e11 => ?_)
      · have eE := e11.trans e12
        have q' := q H12 (Ex.refl _)
        refine ⟨.list (rs.map rowD), .list [], .lst (SqL.of (eE _ _ r10)) (DpAll.ext eE (dp_rows hrs10)), .lst (SqL.of (e12 _ _ hp1)) .nil, shaped_rows hP hR, rfl, ?_⟩
        rw [show PyData.eqv (.list (rs.map rowD)) (.list []) = decide (rs = []) from eqv_rows rs []]
        exact q'
      · have W11 := W10.ext e11
        exact ⟨_, rfl, _, rfl, fin W11 ks kc rne.1 rne.2 (e11 _ _ k10) (e11 _ _ r10) (hrs10.mono e11) hP' hR'⟩
      have hne : rs ≠ [] := of_decide_eq_false hb
      have W11 := W10.ext e11
      have k11 := e11 _ _ k10
      have r11 := e11 _ _ r10
      have hrs11 := hrs10.mono e11
      have hat : at_.toNat < rs.length := by
        have := hm1 hne
        omega
      -- one, two, toll = roads[at]
      have gr : rs[at_.toNat]? = some rs[at_.toNat] := List.getElem?_eq_getElem hat
      have grm : rs[at_.toNat] ∈ rs := List.getElem_mem hat
      generalize rs[at_.toNat] = r0 at gr grm
      have ok0 := hR.ok r0 grm
      obtain ⟨b0, hb0, hb1⟩ := rows_at hrs11 gr
      refine ⟨_, rfl, _, rfl, r, _, at_, _, rfl, rfl, SqL.of r11, (by rw [ea]; exact atI_nat hb0), b0, _, rfl, SqT.of hb1, rfl, _, _, rfl, _, _, rfl, _, _, rfl, rfl, ?_⟩
      -- the row at at_, otherwise
      have other : ∀ (r1 : Row), RoadOk ys r1 → Roads ys (rs.take at_.toNat ++ [r1] ++ rs.drop (at_.toNat + 1)) := fun r1 ok1 => roads_sub hsub hR (by
        rw [List.length_append, List.length_append, List.length_take, List.length_drop, List.length_singleton]; omega) fun r hr => by
          rcases List.mem_append.mp hr with hr | hr
          · rcases List.mem_append.mp hr with hr | hr
            · exact .inl (List.mem_of_mem_take hr)
            · obtain rfl := List.mem_singleton.mp hr
              exact .inr ok1
          · exact .inl (List.mem_of_mem_drop hr)
      have ok1 := road_perm hsub ok0
      have c0 := ok0.c0
      have c1 := ok0.c1
      have at1 : ∀ {σ : L2.St} {H' : Hp}, σ[4]? = some (some (.int at_)) → Ev (tOp (rI0 fun i j => V.int (i + j)) (tVar 4) (tC (.int 1))) σ H' (.int ((at_.toNat + 1 : Nat) : Int)) := fun {σ H'} hs => ev_is (ev_op (ev_var hs) ev_c rv_I0) (by rw [ea]; rfl)
      -- ways 5, 6, 7, 8
      have mid : ∀ {as : TA} {r1 : Row} {H12 : Hp} (e12 : Ex H11 H12) (σ : L2.St) (h2 : σ[2]? = some (some (.ref r))) (h4 : σ[4]? = some (some (.int at_))) (h6 : σ[6]? = some (some (.ref k))) (hr1 : RoadOk ys r1)
          (ha : ∀ H13, Ex H12 H13 → EvA as σ H13 (rowV r1)) (D : Ends), D.rt = Q → tRet (tTup (tCons (tVar 6) (tCons (tOp rCat (tOp rCat (tSl (rSlL K) (tVar 2) tNoPart (tPart (tVar 4))) (tLst (tCons (tTup as) tNil))) (tSl (rSlL K) (tVar 2) (tPart (tOp (rI0 fun i j => V.int (i + j)) (tVar 4) (tC (.int 1)))) tNoPart)) tNil))) D σ H12 := by
        intro as r1 H12 e12 σ h2 h4 h6 hr1 ha D hD
        refine un_ret ?_
        rw [hD]
        refine un_tup (un_cons ⟨_, h6, un_cons (go_R (er_cat (er_cat (er_lo (k := at_.toNat) (ev_var h2) (eo_some (ev_var (by rw [← ea]; exact h4))) (e12 _ _ r11) (hrs11.mono e12) hka) (fun H13 e13 => er_one (r := r1) (ha H13 e13)) ?_) (fun H13 e13 => er_hi (k := at_.toNat + 1) (ev_var h2) (eo_some (at1 h4)) (e13 _ _ (e12 _ _ r11)) (hrs11.mono (e12.trans e13)) hat) ?_) (fun b us H13 hb e13 hb1 hus => ?_))⟩)
        · rw [List.length_take, List.length_singleton]; omega
        · rw [List.length_append, List.length_take, List.length_drop, List.length_singleton]; omega
        · have W12 := W11.ext e12
          exact fin (W12.ext e13) ks kc (W12.st.ne_s hb) (W12.st.ne_c hb) (e13 _ _ (e12 _ _ k11)) hb1 hus hP' (other r1 hr1)
      refine q_when (et_test (ev_op (ev_var rfl) ev_c (rv_eq rfl))) (fun _ H12 e12 => ?_) (fun _ H12 e12 => ?_)
      · exact mid (r1 := (r0.2.1, r0.1, r0.2.2)) e12 _ rfl rfl rfl ⟨ok1.m2, ok1.m1, fun e => ok1.ne e.symm, c0, c1⟩ (fun H13 e13 => ea_cons (ev_var rfl) (ea_cons (ev_var rfl) (ea_cons (ev_var rfl) ea_nil))) _ rfl
      refine q_when (et_test (ev_op (ev_var rfl) ev_c (rv_eq rfl))) (fun _ H13 e13 => ?_) (fun _ H13 e13 => ?_)
      · have hb := fmod_bd (a := r0.2.2) (m := 30) (by decide)
        exact mid (r1 := (r0.1, r0.2.1, r0.2.2.fmod 30 + 1)) (e12.trans e13) _ rfl rfl rfl ⟨ok1.m1, ok1.m2, ok1.ne, by show 1 ≤ r0.2.2.fmod 30 + 1; omega, by show r0.2.2.fmod 30 + 1 ≤ 30; omega⟩ (fun H14 e14 => ea_cons (ev_var rfl) (ea_cons (ev_var rfl) (ea_cons (ev_op (ev_op (ev_var rfl) ev_c (rv_I (by show (30 : Int) ≠ 0; decide))) ev_c rv_I0) ea_nil))) _ rfl
      have e1213 := e12.trans e13
      refine q_when (et_test (ev_op (ev_var rfl) ev_c (rv_eq rfl))) (fun _ H14 e14 => ?_) (fun _ H14 e14 => ?_)
      · have eE := e1213.trans e14
        have W14 := W11.ext eE
        refine ⟨_, rfl, un_cons (go_R (er_cat (er_lo (k := at_.toNat) (ev_var rfl) (eo_some (ev_var (by rw [← ea]; rfl))) (eE _ _ r11) (hrs11.mono eE) hka) (fun H15 e15 => er_hi (k := at_.toNat + 1) (ev_var rfl) (eo_some (at1 rfl)) (e15 _ _ (eE _ _ r11)) (hrs11.mono (eE.trans e15)) hat) ?_) (fun b us H15 hb e15 hb1 hus => ?_))⟩
        · rw [List.length_take, List.length_drop]; omega
        · refine fin (W14.ext e15) ks kc (W14.st.ne_s hb) (W14.st.ne_c hb) (e15 _ _ (eE _ _ k11)) hb1 hus hP' (roads_sub hsub hR ?_ fun r hr => ?_)
          · rw [List.length_append, List.length_take, List.length_drop]; omega
          · rcases List.mem_append.mp hr with hr | hr
            · exact .inl (List.mem_of_mem_take hr)
            · exact .inl (List.mem_of_mem_drop hr)
      · have eE := e1213.trans e14
        have W14 := W11.ext eE
        refine ⟨_, rfl, _, rfl, r, ts, rfl, SqL.of (eE _ _ r11), fun b hb => ?_⟩
        have e15 := Ex.new (o := .lst ts.reverse) hb
        exact fin (W14.ext e15) ks kc (W14.st.ne_s hb) (W14.st.ne_c hb) (e15 _ _ (eE _ _ k11)) upd_same ((hrs11.mono (eE.trans e15)).reverse) hP' (roads_sub hsub hR (by rw [List.length_reverse]; exact l12) fun r hr => .inl (List.mem_reverse.mp hr))
    · rw [decide_eq_false hx]
      have hxl := List.length_pos_iff.mpr hx
      refine iteT ⟨fun σ H' => ∃ xs' ys' : List Int, xs.length - 1 = xs'.length ∧ σ = [some (.ref s), some (.ref p), some (.ref r), some (.int way), some (.int at_), some (.ref l), some (.ref k), none, none, none] ∧ Wd s c B H' ∧ H' l = some (.lst (xs'.map V.int)) ∧ H' k = some (.lst (ys'.map V.int)) ∧ (ys' ++ xs').Perm ps, fun σ' H' hN => ⟨xs.length - 1, by omega, hN⟩, ?_⟩
      refine ⟨_, rfl, .inl ⟨rfl, _, SqL.of k7⟩, _, rfl, .inl ⟨rfl, _, SqL.of l7⟩, _, rfl, _, rfl, l, _, rfl, .inl (SqL.of l7), s, c, _, rfl, W7.st, by rw [List.length_map]; omega, by rw [List.length_map]; omega, fun j H8 j0 j1 st8 off8 => ?_⟩
      rw [List.length_map] at j1
      have W8 := W7.off st8 off8
      have l8' := (off8 l ls lc).trans l7
      have k8 := (off8 k ks kc).trans k7
      have hj : j.toNat < xs.length := by omega
      have gj : xs[j.toNat]? = some xs[j.toNat] := List.getElem?_eq_getElem hj
      refine ⟨l, _, j, j.toNat, .int xs[j.toNat], rfl, rfl, l8', by omega, by omega, seq_nat j0 (by rw [List.length_map]; exact j1), by rw [List.getElem?_map, gj]; rfl, ?_⟩
      rw [erase_ints]
      have W9 := W8.mut (o := .lst ((xs.eraseIdx j.toNat).map V.int)) lB ls lc
      have k9 : (upd H8 l (.lst ((xs.eraseIdx j.toNat).map V.int))) k = some (.lst (ys.map V.int)) := by rw [upd_ne lk.symm]; exact k8
      refine ⟨k, _, _, rfl, rfl, k9, len8 (by rw [List.length_map]; omega), ?_⟩
      refine ⟨xs.eraseIdx j.toNat, ys ++ [xs[j.toNat]], (List.length_eraseIdx_of_lt hj).symm, rfl, W9.mut kB ks kc, ?_, ?_, ?_⟩
      · rw [upd_ne lk, upd_same]
      · rw [upd_same, List.map_append]
        rfl
      · refine List.Perm.trans ?_ pm
        rw [List.append_assoc]
        exact List.Perm.append_left ys (erase_perm xs j.toNat hj)
end
end K04

set_option maxHeartbeats 8000000
namespace K04
open PySem PySem.Spec PyProof.Rows L2 Evl MyG
theorem said : PyData.shown (.list ([false, true, false].map PyData.bool)) = ("[False, True, False]" : Str) := by decide +kernel
section
variable {P : Program} {w : World} {K : PySem.W.Frag} {mg : Str → Option Value} {base : Heap}
theorem ok_law (T : Tx K mg) : FnOkG P w K mg base CX0 7 T.a_law T.d_law ["_law_script"] (sp_law K) := by
  have G_l_state := ok_state (P := P) (w := w) (base := base) T
  have G_l_draw := ok_draw (P := P) (w := w) (base := base) T
  have G_l_places := ok_places (P := P) (w := w) (base := base) T
  have G_l_roads := ok_roads (P := P) (w := w) (base := base) T
  have G_l_other := ok_other (P := P) (w := w) (base := base) T
  have G_Net___init__ := ok_init (P := P) (w := w) (base := base) T
  have G_Net___eq__ := ok_neq (P := P) (w := w) (base := base) T
  refine okG T.F_law sc_law (fun vs H Q E h => ?_) (fun cdv A outer s H vs Q E hgd hr h => ?_)
  · obtain ⟨_, _, rfl, _⟩ := h
    rfl
  · obtain ⟨a, ns, rfl, hS, hlen, q⟩ := h
    refine ⟨_, (pss_cons (ps_set (i := 1) sc_law.nd rfl (Or.inl rfl) (pe_call G_l_state (hr.mono (by decide)) (by rfl) T.g_l_state T.F_l_state.kp T.b_l_state .nil pass0 (pa_cons (pv 0) pa_nil)))
  (pss_cons (ps_for PassesOwn.never rfl (pi_range1 rfl T.z_range (pa_cons pe_int pa_nil)) (pg_name (i := 2) sc_law.nd rfl (Or.inl rfl))
   (pss_cons (ps_set (i := 3) sc_law.nd rfl (Or.inl rfl) (pe_call G_l_places (hr.mono (by decide)) (by rfl) T.g_l_places T.F_l_places.kp T.b_l_places .nil pass0 (pa_cons (pv 1) pa_nil)))
  (pss_cons (ps_set (i := 4) sc_law.nd rfl (Or.inl rfl) (pe_call G_l_roads (hr.mono (by decide)) (by rfl) T.g_l_roads T.F_l_roads.kp T.b_l_roads .nil pass0 (pa_cons (pv 1) (pa_cons (pv 3) pa_nil))))
  (pss_cons (ps_asg (pe_call G_l_other (hr.mono (by decide)) (by rfl) T.g_l_other T.F_l_other.kp T.b_l_other .nil pass0 (pa_cons (pv 1) (pa_cons (pv 3) (pa_cons (pv 4) pa_nil)))) (pg_tup rfl (pgs_cons (pg_name (i := 5) sc_law.nd rfl (Or.inl rfl)) (pgs_cons (pg_name (i := 6) sc_law.nd rfl (Or.inl rfl)) pgs_nil))))
  (pss_cons (ps_par3 (i := 7) (j := 8) (l := 9) rfl sc_law.nd rfl rfl rfl (by decide) (by decide) (by decide) rfl rfl rfl (pa_cons (pe_make T.m_Net G_Net___init__ (hr.mono (by decide)) (by rfl) T.g_Net T.b_Net___init__ .nil pass0 (pa_cons (pv 3) (pa_cons (pv 4) pa_nil))) (pa_cons (pe_make T.m_Net G_Net___init__ (hr.mono (by decide)) (by rfl) T.g_Net T.b_Net___init__ .nil pass0 (pa_cons (pv 5) (pa_cons (pv 6) pa_nil))) (pa_cons (pe_make T.m_Net G_Net___init__ (hr.mono (by decide)) (by rfl) T.g_Net T.b_Net___init__ .nil pass0 (pa_cons (revLK (K := K) rfl (pv 3)) (pa_cons (pe_callTy (listK (K := K) rfl) (by rfl) T.z_list (by decide +kernel) (pa_cons (pv 4) pa_nil)) pa_nil))) pa_nil))) (by rfl))
  (pss_cons (ps_set (i := 10) sc_law.nd rfl (Or.inl rfl) (pe_and (pe_cmpR (op_eqK (K := K) rfl hr.units) (pe_callB (sortedK (K := K) rfl) (by rfl) T.z_sorted (by decide +kernel) (pa_cons (pv 3) pa_nil)) (pe_callB (sortedK (K := K) rfl) (by rfl) T.z_sorted (by decide +kernel) (pa_cons (pv 5) pa_nil)) (nomark _)) (pe_one (pe_cmpR (op_eqK (K := K) rfl hr.units) (pv 4) (pv 6) (nomark _)))))
  (pss_cons (ps_set (i := 11) sc_law.nd rfl (Or.inl rfl) (pe_lst (pa_cons (pe_cmpR (op_eqL T.e_Net G_Net___eq__ (hr.mono (by decide)) T.b_Net___eq__ pass0) (pv 7) (pv 8) (nomark _)) (pa_cons (pe_cmpR (op_eqL T.e_Net G_Net___eq__ (hr.mono (by decide)) T.b_Net___eq__ pass0) (pv 8) (pv 7) (nomark _)) (pa_cons (pe_cmpR (op_neL T.e_Net G_Net___eq__ (hr.mono (by decide)) T.b_Net___eq__ pass0) (pv 7) (pv 8) (nomark _)) (pa_cons (pe_cmpR (op_eqL T.e_Net G_Net___eq__ (hr.mono (by decide)) T.b_Net___eq__ pass0) (pv 7) (pv 9) (nomark _)) (pa_cons (pe_cmpR (op_neL T.e_Net G_Net___eq__ (hr.mono (by decide)) T.b_Net___eq__ pass0) (pv 7) (pv 9) (nomark _)) (pa_cons (pe_cmpR (op_inI T.e_Net G_Net___eq__ (hr.mono (by decide)) T.b_Net___eq__ pass0) (pv 7) (pe_lst (pa_cons (pv 8) pa_nil)) (by rfl)) (pa_cons (pe_cmpR (op_eqL T.e_Net G_Net___eq__ (hr.mono (by decide)) T.b_Net___eq__ pass0) (pv 7) (pv 7) (nomark _)) pa_nil)))))))))
  (pss_cons (ps_if (pt_cmpR op_ne (pe_callB (reprK (K := K) rfl hgd hr) (by rfl) T.z_repr (by decide +kernel) (pa_cons (pv 11) pa_nil)) (pe_callB (reprK (K := K) rfl hgd hr) (by rfl) T.z_repr (by decide +kernel) (pa_cons (pe_lst (pa_cons (pv 10) (pa_cons (pv 10) (pa_cons (pe_not (pv 10)) (pa_cons pe_bl (pa_cons pe_bl (pa_cons (pv 10) (pa_cons pe_bl pa_nil)))))))) pa_nil)) (nomark _)) (pss_one (ps_ret pe_bl)) pss_nil)
  (pss_one (ps_for PassesOwn.never rfl (iListK (K := K) rfl (pe_lst (pa_cons pe_non (pa_cons pe_bl (pa_cons pe_int (pa_cons pe_str (pa_cons (pv 3) (pa_cons (pv 4) (pa_cons (pe_tup (pa_cons (pv 3) (pa_cons (pv 4) pa_nil))) (pa_cons (pe_lst (pa_cons (pv 7) pa_nil)) (pa_cons pe_dnewK pa_nil))))))))))) (pg_name (i := 12) sc_law.nd rfl (Or.inl rfl))
   (pss_one (ps_if (pt_cmpR op_ne (pe_callB (reprK (K := K) rfl hgd hr) (by rfl) T.z_repr (by decide +kernel) (pa_cons (pe_lst (pa_cons (pe_cmpR (op_eqL T.e_Net G_Net___eq__ (hr.mono (by decide)) T.b_Net___eq__ pass0) (pv 7) (pv 12) (nomark _)) (pa_cons (pe_cmpR (op_neL T.e_Net G_Net___eq__ (hr.mono (by decide)) T.b_Net___eq__ pass0) (pv 7) (pv 12) (nomark _)) (pa_cons (pe_cmpR (op_eqRt T.e_Net G_Net___eq__ (hr.mono (by decide)) T.b_Net___eq__ pass0) (pv 12) (pv 7) (nomark _)) pa_nil)))) pa_nil)) pe_str (nomark _)) (pss_one (ps_ret pe_bl)) pss_nil))))))))))))
  (pss_one (ps_ret pe_bl)))), ?_⟩
    refine ⟨_, rfl, a, ns, rfl, hS, hlen, fun s c H1 e1 hs hc st => ?_⟩
    refine ⟨4, rfl, by decide, by decide, for_range (lo := 0) (n := (4 : Int).toNat) (fun i σ H' => ∃ (y2 y3 y4 y5 y6 y7 y8 y9 y10 y11 y12 : Option V), σ = [some (.ref a), some (.ref s), y2, y3, y4, y5, y6, y7, y8, y9, y10, y11, y12] ∧ Sta s c H')
      ⟨_, _, _, _, _, _, _, _, _, _, _, rfl, st⟩ ?_ ?_⟩
    · rintro i σ H2 hi ⟨y2, y3, y4, y5, y6, y7, y8, y9, y10, y11, y12, rfl, st2⟩
      have W0 : Wd s c (fun _ => none) H2 := ⟨fun _ _ z => (nomatch z), rfl, rfl, st2⟩
      -- places, roads
      refine ⟨_, rfl, s, c, _, rfl, W0, fun p1 ps H3 hP hp1 W1 => ?_⟩
      refine ⟨_, rfl, _, rfl, s, c, p1, _, ps, rfl, W1, upd_same, hP, fun p2 ts rs B4 H4 eB4 hR hrs hp2 hB2 W4 => ?_⟩
      have hB1 : B4 p1 = some (.lst (ps.map V.int)) := eB4 _ _ upd_same
      -- some, rows
      refine ⟨_, rfl, _, rfl, _, rfl, s, c, p1, p2, B4, ps, ts, rs, rfl, W4, hB1, hB2, hrs, hP, hR, fun t5 a5 b5 ps' ts' rs' B H5 eB ht5 ha5 hb5 hrs' hP' hR' W => ?_⟩
      refine ⟨t5, _, rfl, SqT.of (W.ex _ _ ht5), rfl, _, _, rfl, _, _, rfl, rfl, ?_⟩
      replace hB1 := eB _ _ hB1
      replace hB2 := eB _ _ hB2
      replace hrs := hrs.mono eB
      -- three nets
      dsimp only
      refine un_seq (un_par3 (un_cons (go_net rfl rfl W (W.ex _ _ hB1) (W.ex _ _ hB2) hP hR hrs fun n1 B6 qs H6 eB6 W6 hN1 eH6 hn1 => un_cons ?_)))
      replace hB1 := eB6 _ _ hB1
      replace hB2 := eB6 _ _ hB2
      replace hrs := hrs.mono eB6
      replace ha5 := eB6 _ _ ha5
      replace hb5 := eB6 _ _ hb5
      replace hrs' := hrs'.mono eB6
      refine go_net rfl rfl W6 (W6.ex _ _ ha5) (W6.ex _ _ hb5) hP' hR' hrs' fun n2 B7 qs' H7 eB7 W7 hN2 eH7 hn2 => un_cons ?_
      have n12 : n2 ≠ n1 := by
        obtain ⟨_, _, _, _, _, hn, _⟩ := hN1.ex
        exact (ne_of_none (W6.ex _ _ hn) hn2).symm
      replace hN1 := hN1.mono eB7
      replace hB1 := eB7 _ _ hB1
      replace hB2 := eB7 _ _ hB2
      replace hrs := hrs.mono eB7
      replace ha5 := eB7 _ _ ha5
      replace hb5 := eB7 _ _ hb5
      replace hrs' := hrs'.mono eB7
      have hPr : Places ps.reverse := places_perm (List.reverse_perm ps) hP
      have hRr : Roads ps.reverse rs := roads_sub (fun x hx => List.mem_reverse.mpr hx) hR hR.len fun r hr => .inl hr
      refine go_netL (ps := ps.reverse) W7 (by rw [List.map_reverse]; exact el_revL (ev_var rfl) (W7.ex _ _ hB1)) (fun H8 e8 => el_listQ (ev_var rfl) (e8 _ _ (W7.ex _ _ hB2))) hPr hRr hrs fun n3 B9 qs3 H9 eB9 W9 hN3 eH9 hn3 => ?_
      obtain rfl : qs3 = qs := PySem.W.ksm_same ((hN3.pm.trans (List.reverse_perm ps)).trans hN1.pm.symm) hN3.so hN1.so
      refine ⟨_, _, _, rfl, ?_⟩
      replace hN1 := hN1.mono eB9
      replace hN2 := hN2.mono eB9
      replace hB1 := eB9 _ _ hB1
      replace hB2 := eB9 _ _ hB2
      replace hrs := hrs.mono eB9
      replace ha5 := eB9 _ _ ha5
      replace hb5 := eB9 _ _ hb5
      replace hrs' := hrs'.mono eB9
      have l8 := hP.l1
      have l8' := hP'.l1
      have eX := W9.ex
      -- same
      refine q_asg (v := .bl (sameB qs3 qs' rs rs')) (ev_andV (a := decide (qs3 = qs')) (b := decide (rs = rs')) (ev_opLL (el_sorted (ev_var rfl) (eX _ _ hB1) (by omega) hN1.pm hN1.so) (el_sorted (ev_var rfl) (eX _ _ ha5) (by omega) hN2.pm hN2.so) (fun x y H10 hx hy e10 => fun H11 e11 Q q => ?_)) (fun _ => ev_op (ev_var rfl) (ev_var rfl) (fun H11 e11 Q q => ?_))) (fun H10 e10 => ?_)
      · have q' := q H11 (Ex.refl _)
        refine ⟨.list (qs3.map PyData.int), .list (qs'.map PyData.int), .lst (SqL.of (e11 _ _ hx)) (dp_ints _), .lst (SqL.of (e11 _ _ hy)) (dp_ints _), shaped_ints _, shaped_ints _, ?_⟩
        rw [eqv_ints]
        exact q'
      · have q' := q H11 (Ex.refl _)
        refine ⟨.list (rs.map rowD), .list (rs'.map rowD), .lst (SqL.of (e11 _ _ (eX _ _ hB2))) (DpAll.ext (eX.trans e11) (dp_rows hrs)), .lst (SqL.of (e11 _ _ (eX _ _ hb5))) (DpAll.ext (eX.trans e11) (dp_rows hrs')), shaped_rows hP hR, shaped_rows hP' hR', ?_⟩
        rw [eqv_rows]
        exact q'
      have W10 := W9.ext e10
      have eX := W10.ex
      generalize hS : sameB qs3 qs' rs rs' = S
      -- found
      refine q_asgL (xs := [S, S, !S, true, false, S, true].map V.bl) (el_lst (ea_cons (ev_is (ev_op (ev_var rfl) (ev_var rfl) (rv_eqN eX hN1 hP hR hN2 hP' hR')) (by rw [hS])) (ea_cons (ev_is (ev_op (ev_var rfl) (ev_var rfl) (rv_eqN eX hN2 hP' hR' hN1 hP hR)) (by rw [sameB_comm, hS]))
        (ea_cons (ev_is (ev_op (ev_var rfl) (ev_var rfl) (rv_neN eX hN1 hP hR hN2 hP' hR')) (by rw [hS])) (ea_cons (ev_is (ev_op (ev_var rfl) (ev_var rfl) (rv_eqN eX hN1 hP hR hN3 hPr hRr)) (by rw [sameB_self])) (ea_cons (ev_is (ev_op (ev_var rfl) (ev_var rfl) (rv_neN eX hN1 hP hR hN3 hPr hRr)) (by rw [sameB_self]; rfl))
        (ea_cons (ev_is (ev_opL (ev_var rfl) (el_lst (ea_cons (ev_var rfl) ea_nil) (by show 1 ≤ 100000; decide)) (fun p H11 hp e11 => rv_inN (eX.trans e11) hp n12 hN1 hP hR hN2 hP' hR')) (by rw [sameB_comm, hS])) (ea_cons (ev_is (ev_op (ev_var rfl) (ev_var rfl) (rv_eqN eX hN1 hP hR hN1 hP hR)) (by rw [sameB_self])) ea_nil))))))) (by show 7 ≤ 100000; decide)) (fun f H11 hf e11 hf1 => ?_)
      have W11 := W10.ext e11
      -- repr(found) != repr([..])
      have sB : Small (.list ([S, S, !S, true, false, S, true].map PyData.bool)) 1 (7 * 12 + 3) := small_bools (Nat.le_refl _)
      refine q_when (b := false) (et_test (ev_is (ev_op (ev_repr (ev_var rfl) (fun H12 e12 => .lst (SqL.of (e12 _ _ hf1)) (dp_bls _)) sB) (ev_reprL (el_lst (ea_cons (ev_var rfl) (ea_cons (ev_var rfl) (ea_cons (ev_notV (ev_var rfl)) (ea_cons ev_c (ea_cons ev_c (ea_cons (ev_var rfl) (ea_cons ev_c ea_nil))))))) (by show 7 ≤ 100000; decide)) (fun H12 e12 => dp_bls [S, S, !S, true, false, S, true]) sB) (rv_ne rfl)) (by rw [decide_eq_true rfl]; rfl))) (fun z => nomatch z) (fun _ H12 e12 => ?_)
      have W12 := W11.ext e12
      -- for thing in [None, True, 0, "", places, roads, (places, roads), [one], {}]
      have eX := W12.ex
      have r1 := eX _ _ hB1
      have r2 := eX _ _ hB2
      refine ⟨_, rfl, _, rfl, _, rfl, _, rfl, by show 2 ≤ sizeLine; decide, fun v1 hv1 => ⟨_, rfl, by show 1 ≤ sizeLine; decide, fun v2 hv2 => fun v3 hv3 => ⟨by show 9 ≤ sizeLine; decide, fun v4 hv4 => ?_⟩⟩⟩
      have f1 := Ex.new (o := .tup [.ref p1, .ref p2]) hv1
      have f2 := Ex.new (o := .lst [.ref n1]) hv2
      have f3 := Ex.new (o := .dK []) hv3
      have f4 := Ex.new (o := .lst [.non, .bl true, .int 0, .str "", .ref p1, .ref p2, .ref v1, .ref v2, .ref v3]) hv4
      have W13 := (((W12.ext f1).ext f2).ext f3).ext f4
      have any : ∀ x ∈ [V.non, .bl true, .int 0, .str "", .ref p1, .ref p2, .ref v1, .ref v2, .ref v3], ∃ t, AnyT (upd (upd (upd (upd H12 v1 (.tup [.ref p1, .ref p2])) v2 (.lst [.ref n1])) v3 (.dK [])) v4 (.lst [.non, .bl true, .int 0, .str "", .ref p1, .ref p2, .ref v1, .ref v2, .ref v3])) x t := by
        intro x hx
        simp only [List.mem_cons, List.not_mem_nil, or_false] at hx
        rcases hx with rfl | rfl | rfl | rfl | rfl | rfl | rfl | rfl | rfl
        · exact ⟨_, .non⟩
        · exact ⟨_, .bl true⟩
        · exact ⟨_, .int 0⟩
        · exact ⟨_, .str ""⟩
        · exact ⟨_, .lst (W13.ex _ _ hB1)⟩
        · exact ⟨_, .lst (W13.ex _ _ hB2)⟩
        · exact ⟨_, .tup (f4 _ _ (f3 _ _ (f2 _ _ upd_same)))⟩
        · exact ⟨_, .lst (f4 _ _ (f3 _ _ upd_same))⟩
        · exact ⟨_, .dK (f4 _ _ upd_same)⟩
      generalize hH13 : (upd (upd (upd (upd H12 v1 (.tup [.ref p1, .ref p2])) v2 (.lst [.ref n1])) v3 (.dK [])) v4 (.lst [.non, .bl true, .int 0, .str "", .ref p1, .ref p2, .ref v1, .ref v2, .ref v3])) = H13 at any W13
      have h13 : H13 v4 = some (.lst [.non, .bl true, .int 0, .str "", .ref p1, .ref p2, .ref v1, .ref v2, .ref v3]) := by
        rw [← hH13]; exact upd_same
      refine ⟨v4, rfl, ⟨_, SqL.of h13⟩, for_list (K := K) (a := v4) (fun j σ H' => ∃ y12 : Option V, σ = [some (.ref a), some (.ref s), some (.int (0 + (i : Int))), some (.ref p1), some (.ref p2), some (.ref a5), some (.ref b5), some (.ref n1), some (.ref n2), some (.ref n3), some (.bl S), some (.ref f), y12] ∧ Ex H13 H')
        ⟨_, rfl, Ex.refl _⟩ (fun j σ H' _ p => let ⟨_, _, e⟩ := p; SqL.of (e _ _ h13)) (fun j x σ H14 hx p => ?_) (fun σ H14 p => ?_)⟩
      · obtain ⟨y12', rfl, e14⟩ := p
        obtain ⟨t, ht⟩ := any x (List.mem_of_getElem? hx)
        have W14 := W13.ext e14
        have tx := ht.ext e14
        have sB : Small (.list ([false, true, false].map PyData.bool)) 1 (3 * 12 + 3) := small_bools (Nat.le_refl _)
        refine s_if (b := false) (et_test (ev_is (ev_op (ev_reprL (xs := [false, true, false].map V.bl) (el_lst (ea_cons (ev_op (ev_var rfl) (ev_var rfl) (rv_eqT W14.ex hN1 hP hR tx)) (ea_cons (ev_op (ev_var rfl) (ev_var rfl) (rv_neT W14.ex hN1 hP hR tx)) (ea_cons (ev_op (ev_var rfl) (ev_var rfl) (rv_eqTr W14.ex hN1 hP hR tx)) ea_nil))) (by show 3 ≤ 100000; decide)) (fun H15 e15 => dp_bls [false, true, false]) sB) ev_c (rv_ne rfl)) (by rw [said, decide_eq_true rfl]; rfl))) (fun z => nomatch z) (fun _ H15 e15 => ?_)
        exact ⟨_, rfl, e14.trans e15⟩
      · obtain ⟨y12', rfl, e14⟩ := p
        exact ⟨_, _, _, _, _, _, _, _, _, _, _, rfl, (W13.ext e14).st⟩
    · rintro σ H2 ⟨y2, y3, y4, y5, y6, y7, y8, y9, y10, y11, y12, rfl, st2⟩
      exact q H2
end
end K04

set_option maxHeartbeats 8000000
namespace K04
open PySem PySem.Spec PyProof.Rows L2 Evl MyG
/-! ### what the top has written -/
theorem all_mk {l : PySem.W.OpenLaw} {w : World} {K : PySem.W.Frag} {h : Heap} {mg : Str → Option Value} {fa : Addr} (X : K.In h) (G : h.Ns mainGlobals mg) (hfa : mg "law" = some (.ref fa))
    {C_Net : Addr}
    {f_l_state : Addr} {od_l_state an_l_state : Option Addr} {sl_l_state : Array (Option Value)} {oc_l_state kV_l_state dc_l_state pm_l_state cd_l_state ct_l_state : Value}
    {f_l_draw : Addr} {od_l_draw an_l_draw : Option Addr} {sl_l_draw : Array (Option Value)} {oc_l_draw kV_l_draw dc_l_draw pm_l_draw cd_l_draw ct_l_draw : Value}
    {f_l_places : Addr} {od_l_places an_l_places : Option Addr} {sl_l_places : Array (Option Value)} {oc_l_places kV_l_places dc_l_places pm_l_places cd_l_places ct_l_places : Value}
    {f_l_roads : Addr} {od_l_roads an_l_roads : Option Addr} {sl_l_roads : Array (Option Value)} {oc_l_roads kV_l_roads dc_l_roads pm_l_roads cd_l_roads ct_l_roads : Value}
    {f_l_other : Addr} {od_l_other an_l_other : Option Addr} {sl_l_other : Array (Option Value)} {oc_l_other kV_l_other dc_l_other pm_l_other cd_l_other ct_l_other : Value}
    {f_is_number : Addr} {od_is_number an_is_number : Option Addr} {sl_is_number : Array (Option Value)} {oc_is_number kV_is_number dc_is_number pm_is_number cd_is_number ct_is_number : Value}
    {f__are_halls : Addr} {od__are_halls an__are_halls : Option Addr} {sl__are_halls : Array (Option Value)} {oc__are_halls kV__are_halls dc__are_halls pm__are_halls cd__are_halls ct__are_halls : Value}
    {f__is_link : Addr} {od__is_link an__is_link : Option Addr} {sl__is_link : Array (Option Value)} {oc__is_link kV__is_link dc__is_link pm__is_link cd__is_link ct__is_link : Value}
    {f__are_links : Addr} {od__are_links an__are_links : Option Addr} {sl__are_links : Array (Option Value)} {oc__are_links kV__are_links dc__are_links pm__are_links cd__are_links ct__are_links : Value}
    {f_Net___init__ : Addr} {od_Net___init__ an_Net___init__ : Option Addr} {sl_Net___init__ : Array (Option Value)} {oc_Net___init__ kV_Net___init__ dc_Net___init__ pm_Net___init__ cd_Net___init__ ct_Net___init__ : Value}
    {f_Net___eq__ : Addr} {od_Net___eq__ an_Net___eq__ : Option Addr} {sl_Net___eq__ : Array (Option Value)} {oc_Net___eq__ kV_Net___eq__ dc_Net___eq__ pm_Net___eq__ cd_Net___eq__ ct_Net___eq__ : Value}
    {f_law : Addr} {od_law an_law : Option Addr} {sl_law : Array (Option Value)} {oc_law kV_law dc_law pm_law cd_law ct_law : Value}
    {t_MOST_HALLS : Tok}
    {t_MOST_LINKS : Tok}
    {t_LAST_HALL : Tok}
    {t_MOST_COST : Tok}
    (aC_Net : PySem.W.nsIn K mainGlobals "Net" = some (some (.ref C_Net)))
    (pg_Net : PySem.W.plainGet K C_Net Str.empty = true)
    (hd_Net : PySem.W.hasDictIn K C_Net = true)
    (po_Net : PySem.W.plainOver K C_Net = true)
    (sa_Net : PySem.W.findIn K (.ref C_Net) "__setattr__" = some (some (.builtin "object.__setattr__")))
    (mk_Net : PySem.W.makesIn K C_Net = true)
    (kc_Net : PySem.W.keepIn K (.ref C_Net) = true)
    (a_l_state : PySem.W.nsIn K mainGlobals "_law_state" = some (some (.ref f_l_state)))
    (l_l_state : K.lookup f_l_state = some ⟨oc_l_state, od_l_state, .func (PySem.W.fnOf "_law_state" "_law_state" (defArgs s_l_state) (defBody s_l_state) (defScope s_l_state) .none kV_l_state dc_l_state pm_l_state an_l_state cd_l_state ct_l_state), sl_l_state⟩)
    (c_l_state : PySem.W.codeIn K cd_l_state "_law_state" = true)
    (k_l_state : PySem.W.keepIn K (.ref f_l_state) = true)
    (a_l_draw : PySem.W.nsIn K mainGlobals "_law_draw" = some (some (.ref f_l_draw)))
    (l_l_draw : K.lookup f_l_draw = some ⟨oc_l_draw, od_l_draw, .func (PySem.W.fnOf "_law_draw" "_law_draw" (defArgs s_l_draw) (defBody s_l_draw) (defScope s_l_draw) .none kV_l_draw dc_l_draw pm_l_draw an_l_draw cd_l_draw ct_l_draw), sl_l_draw⟩)
    (c_l_draw : PySem.W.codeIn K cd_l_draw "_law_draw" = true)
    (k_l_draw : PySem.W.keepIn K (.ref f_l_draw) = true)
    (a_l_places : PySem.W.nsIn K mainGlobals "_law_places" = some (some (.ref f_l_places)))
    (l_l_places : K.lookup f_l_places = some ⟨oc_l_places, od_l_places, .func (PySem.W.fnOf "_law_places" "_law_places" (defArgs s_l_places) (defBody s_l_places) (defScope s_l_places) .none kV_l_places dc_l_places pm_l_places an_l_places cd_l_places ct_l_places), sl_l_places⟩)
    (c_l_places : PySem.W.codeIn K cd_l_places "_law_places" = true)
    (k_l_places : PySem.W.keepIn K (.ref f_l_places) = true)
    (a_l_roads : PySem.W.nsIn K mainGlobals "_law_roads" = some (some (.ref f_l_roads)))
    (l_l_roads : K.lookup f_l_roads = some ⟨oc_l_roads, od_l_roads, .func (PySem.W.fnOf "_law_roads" "_law_roads" (defArgs s_l_roads) (defBody s_l_roads) (defScope s_l_roads) .none kV_l_roads dc_l_roads pm_l_roads an_l_roads cd_l_roads ct_l_roads), sl_l_roads⟩)
    (c_l_roads : PySem.W.codeIn K cd_l_roads "_law_roads" = true)
    (k_l_roads : PySem.W.keepIn K (.ref f_l_roads) = true)
    (a_l_other : PySem.W.nsIn K mainGlobals "_law_other" = some (some (.ref f_l_other)))
    (l_l_other : K.lookup f_l_other = some ⟨oc_l_other, od_l_other, .func (PySem.W.fnOf "_law_other" "_law_other" (defArgs s_l_other) (defBody s_l_other) (defScope s_l_other) .none kV_l_other dc_l_other pm_l_other an_l_other cd_l_other ct_l_other), sl_l_other⟩)
    (c_l_other : PySem.W.codeIn K cd_l_other "_law_other" = true)
    (k_l_other : PySem.W.keepIn K (.ref f_l_other) = true)
    (a_is_number : PySem.W.nsIn K mainGlobals "is_number" = some (some (.ref f_is_number)))
    (l_is_number : K.lookup f_is_number = some ⟨oc_is_number, od_is_number, .func (PySem.W.fnOf "is_number" "is_number" (defArgs s_is_number) (defBody s_is_number) (defScope s_is_number) .none kV_is_number dc_is_number pm_is_number an_is_number cd_is_number ct_is_number), sl_is_number⟩)
    (c_is_number : PySem.W.codeIn K cd_is_number "is_number" = true)
    (k_is_number : PySem.W.keepIn K (.ref f_is_number) = true)
    (a__are_halls : PySem.W.nsIn K mainGlobals "_are_halls" = some (some (.ref f__are_halls)))
    (l__are_halls : K.lookup f__are_halls = some ⟨oc__are_halls, od__are_halls, .func (PySem.W.fnOf "_are_halls" "_are_halls" (defArgs s__are_halls) (defBody s__are_halls) (defScope s__are_halls) .none kV__are_halls dc__are_halls pm__are_halls an__are_halls cd__are_halls ct__are_halls), sl__are_halls⟩)
    (c__are_halls : PySem.W.codeIn K cd__are_halls "_are_halls" = true)
    (k__are_halls : PySem.W.keepIn K (.ref f__are_halls) = true)
    (a__is_link : PySem.W.nsIn K mainGlobals "_is_link" = some (some (.ref f__is_link)))
    (l__is_link : K.lookup f__is_link = some ⟨oc__is_link, od__is_link, .func (PySem.W.fnOf "_is_link" "_is_link" (defArgs s__is_link) (defBody s__is_link) (defScope s__is_link) .none kV__is_link dc__is_link pm__is_link an__is_link cd__is_link ct__is_link), sl__is_link⟩)
    (c__is_link : PySem.W.codeIn K cd__is_link "_is_link" = true)
    (k__is_link : PySem.W.keepIn K (.ref f__is_link) = true)
    (a__are_links : PySem.W.nsIn K mainGlobals "_are_links" = some (some (.ref f__are_links)))
    (l__are_links : K.lookup f__are_links = some ⟨oc__are_links, od__are_links, .func (PySem.W.fnOf "_are_links" "_are_links" (defArgs s__are_links) (defBody s__are_links) (defScope s__are_links) .none kV__are_links dc__are_links pm__are_links an__are_links cd__are_links ct__are_links), sl__are_links⟩)
    (c__are_links : PySem.W.codeIn K cd__are_links "_are_links" = true)
    (k__are_links : PySem.W.keepIn K (.ref f__are_links) = true)
    (a_Net___init__ : PySem.W.findIn K (.ref C_Net) "__init__" = some (some (.ref f_Net___init__)))
    (i_Net___init__ : PySem.W.isFn K (.ref f_Net___init__) = true)
    (l_Net___init__ : K.lookup f_Net___init__ = some ⟨oc_Net___init__, od_Net___init__, .func (PySem.W.fnOf "__init__" "Net.__init__" (defArgs s_Net___init__) (defBody s_Net___init__) (defScope s_Net___init__) .none kV_Net___init__ dc_Net___init__ pm_Net___init__ an_Net___init__ cd_Net___init__ ct_Net___init__), sl_Net___init__⟩)
    (c_Net___init__ : PySem.W.codeIn K cd_Net___init__ "Net.__init__" = true)
    (k_Net___init__ : PySem.W.keepIn K (.ref f_Net___init__) = true)
    (a_Net___eq__ : PySem.W.findIn K (.ref C_Net) "__eq__" = some (some (.ref f_Net___eq__)))
    (i_Net___eq__ : PySem.W.isFn K (.ref f_Net___eq__) = true)
    (l_Net___eq__ : K.lookup f_Net___eq__ = some ⟨oc_Net___eq__, od_Net___eq__, .func (PySem.W.fnOf "__eq__" "Net.__eq__" (defArgs s_Net___eq__) (defBody s_Net___eq__) (defScope s_Net___eq__) .none kV_Net___eq__ dc_Net___eq__ pm_Net___eq__ an_Net___eq__ cd_Net___eq__ ct_Net___eq__), sl_Net___eq__⟩)
    (c_Net___eq__ : PySem.W.codeIn K cd_Net___eq__ "Net.__eq__" = true)
    (k_Net___eq__ : PySem.W.keepIn K (.ref f_Net___eq__) = true)
    (a_law : PySem.W.nsIn K mainGlobals "law" = some (some (.ref f_law)))
    (l_law : K.lookup f_law = some ⟨oc_law, od_law, .func (PySem.W.fnOf "law" "law" (defArgs s_law) (defBody s_law) (defScope s_law) .none kV_law dc_law pm_law an_law cd_law ct_law), sl_law⟩)
    (c_law : PySem.W.codeIn K cd_law "law" = true)
    (k_law : PySem.W.keepIn K (.ref f_law) = true)
    (en_Net : PySem.W.findIn K (.ref C_Net) "__ne__" = some (some (.builtin "object.__ne__")))
    (eo_Net : PySem.W.subIn K (.ref C_Net) (.type "object") = some true)
    (es_Net_NoneType : PySem.W.subIn K (.ref C_Net) (.type "NoneType") = some false)
    (es_Net_bool : PySem.W.subIn K (.ref C_Net) (.type "bool") = some false)
    (es_Net_int : PySem.W.subIn K (.ref C_Net) (.type "int") = some false)
    (es_Net_str : PySem.W.subIn K (.ref C_Net) (.type "str") = some false)
    (es_Net_list : PySem.W.subIn K (.ref C_Net) (.type "list") = some false)
    (es_Net_tuple : PySem.W.subIn K (.ref C_Net) (.type "tuple") = some false)
    (es_Net_dict : PySem.W.subIn K (.ref C_Net) (.type "dict") = some false)
    (qc_Net : PySem.W.findIn K (.ref C_Net) "__class__" = some (some (.builtin "object.__class__")))
    (qg_Net : PySem.W.specialIn K (.builtin "object.__class__") "__get__" = some (some (.builtin "getset_descriptor.__get__")))
    (qt_Net : PySem.W.takesIn K (.builtin "object.__class__") = some true)
    (qm_Net : PySem.W.mroIn K C_Net (.type "object") = some true)
    (qk_Net_NoneType : PySem.W.kitOne K (.type "NoneType") (.ref C_Net) = some false)
    (qk_Net_bool : PySem.W.kitOne K (.type "bool") (.ref C_Net) = some false)
    (qk_Net_int : PySem.W.kitOne K (.type "int") (.ref C_Net) = some false)
    (qk_Net_str : PySem.W.kitOne K (.type "str") (.ref C_Net) = some false)
    (qk_Net_list : PySem.W.kitOne K (.type "list") (.ref C_Net) = some false)
    (qk_Net_tuple : PySem.W.kitOne K (.type "tuple") (.ref C_Net) = some false)
    (qk_Net_dict : PySem.W.kitOne K (.type "dict") (.ref C_Net) = some false)
    (na_Net__handed : PySem.W.findIn K (.ref C_Net) "_handed" = some none)
    (na_Net__rising : PySem.W.findIn K (.ref C_Net) "_rising" = some none)
    (na_Net__links : PySem.W.findIn K (.ref C_Net) "_links" = some none)
    (z_abs : PySem.W.nsIn K mainGlobals "abs" = some none)
    (z_len : PySem.W.nsIn K mainGlobals "len" = some none)
    (z_range : PySem.W.nsIn K mainGlobals "range" = some none)
    (z_list : PySem.W.nsIn K mainGlobals "list" = some none)
    (z_repr : PySem.W.nsIn K mainGlobals "repr" = some none)
    (z_sorted : PySem.W.nsIn K mainGlobals "sorted" = some none)
    (z_all : PySem.W.nsIn K mainGlobals "all" = some none)
    (z_isinstance : PySem.W.nsIn K mainGlobals "isinstance" = some none)
    (z_set : PySem.W.nsIn K mainGlobals "set" = some none)
    (z_tuple : PySem.W.nsIn K mainGlobals "tuple" = some none)
    (z_int : PySem.W.nsIn K mainGlobals "int" = some none)
    (z_bool : PySem.W.nsIn K mainGlobals "bool" = some none)
    (z_max : PySem.W.nsIn K mainGlobals "max" = some none)
    (v_MOST_HALLS : PySem.W.nsIn K mainGlobals "MOST_HALLS" = some (some (.int (8) t_MOST_HALLS)))
    (v_MOST_LINKS : PySem.W.nsIn K mainGlobals "MOST_LINKS" = some (some (.int (12) t_MOST_LINKS)))
    (v_LAST_HALL : PySem.W.nsIn K mainGlobals "LAST_HALL" = some (some (.int (999) t_LAST_HALL)))
    (v_MOST_COST : PySem.W.nsIn K mainGlobals "MOST_COST" = some (some (.int (30) t_MOST_COST))) :
    ∃ fd : FuncData, (∀ (s : Shared) (v : Value), BindsTo s fd ⟨[v], []⟩ [("_law_script", v)]) ∧ ∀ base : Heap, K.In base → base.Ns mainGlobals mg → FnOkG l.prog w K mg base CX0 7 fa fd ["_law_script"] (sp_law K) := by
  have e := hfa.symm.trans (PySem.W.mg_of X G a_law)
  cases e
  have F_l_state := fun_mk (st := s_l_state) l_l_state c_l_state k_l_state
  have b_l_state := F_l_state.binds (ps := ["_law_script"]) fun _ _ _ _ _ _ us hl => match us, hl with | [_], _ => rfl
  have F_l_draw := fun_mk (st := s_l_draw) l_l_draw c_l_draw k_l_draw
  have b_l_draw := F_l_draw.binds (ps := ["_law_state_here", "_law_many"]) fun _ _ _ _ _ _ us hl => match us, hl with | [_, _], _ => rfl
  have F_l_places := fun_mk (st := s_l_places) l_l_places c_l_places k_l_places
  have b_l_places := F_l_places.binds (ps := ["_law_state_here"]) fun _ _ _ _ _ _ us hl => match us, hl with | [_], _ => rfl
  have F_l_roads := fun_mk (st := s_l_roads) l_l_roads c_l_roads k_l_roads
  have b_l_roads := F_l_roads.binds (ps := ["_law_state_here", "_law_places_here"]) fun _ _ _ _ _ _ us hl => match us, hl with | [_, _], _ => rfl
  have F_l_other := fun_mk (st := s_l_other) l_l_other c_l_other k_l_other
  have b_l_other := F_l_other.binds (ps := ["_law_state_here", "_law_places_here", "_law_roads_here"]) fun _ _ _ _ _ _ us hl => match us, hl with | [_, _, _], _ => rfl
  have F_is_number := fun_mk (st := s_is_number) l_is_number c_is_number k_is_number
  have b_is_number := F_is_number.binds (ps := ["thing"]) fun _ _ _ _ _ _ us hl => match us, hl with | [_], _ => rfl
  have F__are_halls := fun_mk (st := s__are_halls) l__are_halls c__are_halls k__are_halls
  have b__are_halls := F__are_halls.binds (ps := ["things"]) fun _ _ _ _ _ _ us hl => match us, hl with | [_], _ => rfl
  have F__is_link := fun_mk (st := s__is_link) l__is_link c__is_link k__is_link
  have b__is_link := F__is_link.binds (ps := ["thing", "halls"]) fun _ _ _ _ _ _ us hl => match us, hl with | [_, _], _ => rfl
  have F__are_links := fun_mk (st := s__are_links) l__are_links c__are_links k__are_links
  have b__are_links := F__are_links.binds (ps := ["things", "halls"]) fun _ _ _ _ _ _ us hl => match us, hl with | [_, _], _ => rfl
  have F_Net___init__ := fun_mk (st := s_Net___init__) l_Net___init__ c_Net___init__ k_Net___init__
  have b_Net___init__ := F_Net___init__.binds (ps := ["self", "halls", "links"]) fun _ _ _ _ _ _ us hl => match us, hl with | [_, _, _], _ => rfl
  have F_Net___eq__ := fun_mk (st := s_Net___eq__) l_Net___eq__ c_Net___eq__ k_Net___eq__
  have b_Net___eq__ := F_Net___eq__.binds (ps := ["self", "other"]) fun _ _ _ _ _ _ us hl => match us, hl with | [_, _], _ => rfl
  have F_law := fun_mk (st := s_law) l_law c_law k_law
  have b_law := F_law.binds (ps := ["_law_script"]) fun _ _ _ _ _ _ us hl => match us, hl with | [_], _ => rfl
  let T : Tx K mg := {
    c_Net := C_Net,
    g_Net := PySem.W.mg_of X G aC_Net,
    cl_Net := ⟨pg_Net, hd_Net, po_Net, sa_Net⟩,
    a_l_state := f_l_state,
    d_l_state := _,
    F_l_state := F_l_state,
    b_l_state := b_l_state,
    g_l_state := PySem.W.mg_of X G a_l_state,
    a_l_draw := f_l_draw,
    d_l_draw := _,
    F_l_draw := F_l_draw,
    b_l_draw := b_l_draw,
    g_l_draw := PySem.W.mg_of X G a_l_draw,
    a_l_places := f_l_places,
    d_l_places := _,
    F_l_places := F_l_places,
    b_l_places := b_l_places,
    g_l_places := PySem.W.mg_of X G a_l_places,
    a_l_roads := f_l_roads,
    d_l_roads := _,
    F_l_roads := F_l_roads,
    b_l_roads := b_l_roads,
    g_l_roads := PySem.W.mg_of X G a_l_roads,
    a_l_other := f_l_other,
    d_l_other := _,
    F_l_other := F_l_other,
    b_l_other := b_l_other,
    g_l_other := PySem.W.mg_of X G a_l_other,
    a_is_number := f_is_number,
    d_is_number := _,
    F_is_number := F_is_number,
    b_is_number := b_is_number,
    g_is_number := PySem.W.mg_of X G a_is_number,
    a__are_halls := f__are_halls,
    d__are_halls := _,
    F__are_halls := F__are_halls,
    b__are_halls := b__are_halls,
    g__are_halls := PySem.W.mg_of X G a__are_halls,
    a__is_link := f__is_link,
    d__is_link := _,
    F__is_link := F__is_link,
    b__is_link := b__is_link,
    g__is_link := PySem.W.mg_of X G a__is_link,
    a__are_links := f__are_links,
    d__are_links := _,
    F__are_links := F__are_links,
    b__are_links := b__are_links,
    g__are_links := PySem.W.mg_of X G a__are_links,
    a_Net___init__ := f_Net___init__,
    d_Net___init__ := _,
    F_Net___init__ := F_Net___init__,
    b_Net___init__ := b_Net___init__,
    m_Net := ⟨mk_Net, a_Net___init__, i_Net___init__, kc_Net⟩,
    a_Net___eq__ := f_Net___eq__,
    d_Net___eq__ := _,
    F_Net___eq__ := F_Net___eq__,
    b_Net___eq__ := b_Net___eq__,
    me_Net___eq__ := ⟨a_Net___eq__, i_Net___eq__, k_Net___eq__⟩,
    a_law := _,
    d_law := _,
    F_law := F_law,
    b_law := b_law,
    g_law := PySem.W.mg_of X G a_law,
    e_Net := ⟨a_Net___eq__, i_Net___eq__, en_Net, eo_Net, all7 es_Net_NoneType es_Net_bool es_Net_int es_Net_str es_Net_list es_Net_tuple es_Net_dict⟩,
    q_Net := ⟨qc_Net, qg_Net, qt_Net, qm_Net, all7 qk_Net_NoneType qk_Net_bool qk_Net_int qk_Net_str qk_Net_list qk_Net_tuple qk_Net_dict⟩,
    n_Net__handed := na_Net__handed,
    n_Net__rising := na_Net__rising,
    n_Net__links := na_Net__links,
    z_abs := PySem.W.mg_none_of X G z_abs,
    z_len := PySem.W.mg_none_of X G z_len,
    z_range := PySem.W.mg_none_of X G z_range,
    z_list := PySem.W.mg_none_of X G z_list,
    z_repr := PySem.W.mg_none_of X G z_repr,
    z_sorted := PySem.W.mg_none_of X G z_sorted,
    z_all := PySem.W.mg_none_of X G z_all,
    z_isinstance := PySem.W.mg_none_of X G z_isinstance,
    z_set := PySem.W.mg_none_of X G z_set,
    z_tuple := PySem.W.mg_none_of X G z_tuple,
    z_int := PySem.W.mg_none_of X G z_int,
    z_bool := PySem.W.mg_none_of X G z_bool,
    z_max := PySem.W.mg_none_of X G z_max,
    t_MOST_HALLS := t_MOST_HALLS,
    v_MOST_HALLS := PySem.W.mg_of X G v_MOST_HALLS,
    t_MOST_LINKS := t_MOST_LINKS,
    v_MOST_LINKS := PySem.W.mg_of X G v_MOST_LINKS,
    t_LAST_HALL := t_LAST_HALL,
    v_LAST_HALL := PySem.W.mg_of X G v_LAST_HALL,
    t_MOST_COST := t_MOST_COST,
    v_MOST_COST := PySem.W.mg_of X G v_MOST_COST }
  exact ⟨_, fun s v => .of_eq rfl, fun base _ _ => ok_law T⟩
end K04
open PySem PySem.W PyProof.Rows
set_option maxHeartbeats 0 in
theorem PySem.Challenge.cw_ringless_k04_nets_alike_holds : PySem.Challenge.rw_ringless_k04_nets_alike.Holds := by
  w_on; o_law; k_head; (case hw => w_witness2)
  k_fill
  refine MyG.walk_ofG (l := PySem.Challenge.rw_ringless_k04_nets_alike) (n := 63) (k := 7) (x := "_law_script") (CX := fun _ => L2.CX0) (sp := fun w => K04.sp_law _) rfl (by decide) rfl ⟨rfl, by decide, by decide⟩ (fun w h Y => PySem.W.kIn_of Y) ?F (fun w H a ns hl _ hS => K04.law_start _ _ _ _ hl hS) (fun _ _ _ _ _ h => h)
  case F =>
    intro w mg fa h KX G hmg
    refine' K04.all_mk KX G hmg ?aC_Net ?pg_Net ?hd_Net ?po_Net ?sa_Net ?mk_Net ?kc_Net ?a_l_state ?l_l_state ?c_l_state ?k_l_state ?a_l_draw ?l_l_draw ?c_l_draw ?k_l_draw ?a_l_places ?l_l_places ?c_l_places ?k_l_places ?a_l_roads ?l_l_roads ?c_l_roads ?k_l_roads ?a_l_other ?l_l_other ?c_l_other ?k_l_other ?a_is_number ?l_is_number ?c_is_number ?k_is_number ?a__are_halls ?l__are_halls ?c__are_halls ?k__are_halls ?a__is_link ?l__is_link ?c__is_link ?k__is_link ?a__are_links ?l__are_links ?c__are_links ?k__are_links ?a_Net___init__ ?i_Net___init__ ?l_Net___init__ ?c_Net___init__ ?k_Net___init__ ?a_Net___eq__ ?i_Net___eq__ ?l_Net___eq__ ?c_Net___eq__ ?k_Net___eq__ ?a_law ?l_law ?c_law ?k_law ?en_Net ?eo_Net ?es_Net_NoneType ?es_Net_bool ?es_Net_int ?es_Net_str ?es_Net_list ?es_Net_tuple ?es_Net_dict ?qc_Net ?qg_Net ?qt_Net ?qm_Net ?qk_Net_NoneType ?qk_Net_bool ?qk_Net_int ?qk_Net_str ?qk_Net_list ?qk_Net_tuple ?qk_Net_dict ?na_Net__handed ?na_Net__rising ?na_Net__links ?z_abs ?z_len ?z_range ?z_list ?z_repr ?z_sorted ?z_all ?z_isinstance ?z_set ?z_tuple ?z_int ?z_bool ?z_max ?v_MOST_HALLS ?v_MOST_LINKS ?v_LAST_HALL ?v_MOST_COST
    (case aC_Net => k_is)
    (case pg_Net => k_is)
    (case hd_Net => k_is)
    (case po_Net => k_is)
    (case sa_Net => k_is)
    (case mk_Net => k_is)
    (case kc_Net => k_is)
    (case a_l_state => k_is)
    (case l_l_state => k_is)
    (case c_l_state => k_is)
    (case k_l_state => k_is)
    (case a_l_draw => k_is)
    (case l_l_draw => k_is)
    (case c_l_draw => k_is)
    (case k_l_draw => k_is)
    (case a_l_places => k_is)
    (case l_l_places => k_is)
    (case c_l_places => k_is)
    (case k_l_places => k_is)
    (case a_l_roads => k_is)
    (case l_l_roads => k_is)
    (case c_l_roads => k_is)
    (case k_l_roads => k_is)
    (case a_l_other => k_is)
    (case l_l_other => k_is)
    (case c_l_other => k_is)
    (case k_l_other => k_is)
    (case a_is_number => k_is)
    (case l_is_number => k_is)
    (case c_is_number => k_is)
    (case k_is_number => k_is)
    (case a__are_halls => k_is)
    (case l__are_halls => k_is)
    (case c__are_halls => k_is)
    (case k__are_halls => k_is)
    (case a__is_link => k_is)
    (case l__is_link => k_is)
    (case c__is_link => k_is)
    (case k__is_link => k_is)
    (case a__are_links => k_is)
    (case l__are_links => k_is)
    (case c__are_links => k_is)
    (case k__are_links => k_is)
    (case a_Net___init__ => k_is)
    (case i_Net___init__ => k_is)
    (case l_Net___init__ => k_is)
    (case c_Net___init__ => k_is)
    (case k_Net___init__ => k_is)
    (case a_Net___eq__ => k_is)
    (case i_Net___eq__ => k_is)
    (case l_Net___eq__ => k_is)
    (case c_Net___eq__ => k_is)
    (case k_Net___eq__ => k_is)
    (case a_law => k_is)
    (case l_law => k_is)
    (case c_law => k_is)
    (case k_law => k_is)
    (case en_Net => k_is)
    (case eo_Net => k_is)
    (case es_Net_NoneType => k_is)
    (case es_Net_bool => k_is)
    (case es_Net_int => k_is)
    (case es_Net_str => k_is)
    (case es_Net_list => k_is)
    (case es_Net_tuple => k_is)
    (case es_Net_dict => k_is)
    (case qc_Net => k_is)
    (case qg_Net => k_is)
    (case qt_Net => k_is)
    (case qm_Net => k_is)
    (case qk_Net_NoneType => kit_is)
    (case qk_Net_bool => kit_is)
    (case qk_Net_int => kit_is)
    (case qk_Net_str => kit_is)
    (case qk_Net_list => kit_is)
    (case qk_Net_tuple => kit_is)
    (case qk_Net_dict => kit_is)
    (case na_Net__handed => k_is)
    (case na_Net__rising => k_is)
    (case na_Net__links => k_is)
    (case z_abs => k_is)
    (case z_len => k_is)
    (case z_range => k_is)
    (case z_list => k_is)
    (case z_repr => k_is)
    (case z_sorted => k_is)
    (case z_all => k_is)
    (case z_isinstance => k_is)
    (case z_set => k_is)
    (case z_tuple => k_is)
    (case z_int => k_is)
    (case z_bool => k_is)
    (case z_max => k_is)
    (case v_MOST_HALLS => k_is)
    (case v_MOST_LINKS => k_is)
    (case v_LAST_HALL => k_is)
    (case v_MOST_COST => k_is)
