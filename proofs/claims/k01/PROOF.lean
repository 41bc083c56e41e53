import PyProof.Rows.All
import Wide.All
import OpenK.AllK
import Wide.FinOn
import HandS.ForMost
import HandS.Evl
import HandS.MakeKw
import HandS.MakeKwOnly
import HandS.IsInst
import PyProof.ReprRoads
import HandS.Zip
import PyProof.Rows.SetFrom
import PyProof.ReprLen
import KE.KSortedM
import PySem.Challenge.RW_ringless_k01_nets_made
set_option Elab.async false
set_option linter.all false
set_option maxRecDepth 100000
set_option maxHeartbeats 2000000
/-! My own additions to the hand layer: defs that know that no repr is under way (so that they may call repr), repr of data, a method called by keywords alone. -/
namespace MyG
open PySem PySem.Spec PyProof.Rows L2

/-- a promise that is kept where no guarded call is under way -/
structure FnOkG (P : Program) (w : World) (K : PySem.W.Frag) (mg : Str → Option Value) (base : Heap) (CX : CXT) (k : Nat) (f : Addr) (fd : FuncData) (ps : List Str) (sp : Sp) : Prop where
  lenG : ∀ vs H Q E, sp vs H Q E → vs.length = ps.length
  runG : ∀ (A : Around) (fr : List Env) (s : Shared) (H : Hp) (as : Args) (us : List Value) (vs : List V) (Q : VK) (E : XK), A.guards = some [] → Room k A → Env0 P w K mg base A fr s H →
    BindsTo s fd as (ps.zip us) → Vals vs us → sp vs H Q E → codeAny (model P w) A (.call (.ref f) as) (CR CX fr P w H s Q E) s

section
variable {P : Program} {w : World} {K : PySem.W.Frag} {mg : Str → Option Value} {base : Heap} {CX : CXT} {k : Nat} {f : Addr} {fd : FuncData} {ps N : List Str} {sp : Sp} {x q : Str} {st : Stmt}
theorem FnOkG.of (F : FnOk P w K mg base CX k f fd ps sp) : FnOkG P w K mg base CX k f fd ps sp :=
  ⟨F.len, fun A fr s H as us vs Q E _ => F.run A fr s H as us vs Q E⟩

/-- a def's body, where no guarded call is under way: for defs from which nothing is raised -/
theorem okG (F : Fun K x q st f fd) (S : FnScope N ps (defScope st)) (hlen : ∀ vs H Q E, sp vs H Q E → vs.length = ps.length)
    (hbody : ∀ (cdv : Value) (A : Around) (fr : List Env) (s : Shared) (H : Hp) (vs : List V) (Q : VK) (E : XK), (A.deeper (envOfC q (defScope st) s.heap.objs.size f cdv)).guards = some [] →
      Room k (A.deeper (envOfC q (defScope st) s.heap.objs.size f cdv)) → sp vs H Q E →
      ∃ t, PSs (cxOf CX0 P w K mg base N q (defScope st) f cdv A fr s H E).nox (defBody st) t ∧ t { nx := fun _ H' => Q .non H', rt := Q } (start N vs) H) :
    FnOkG P w K mg base CX0 (k + 1) f fd ps sp := by
  obtain ⟨oc, od, kV, doc, pm, an, cdv, ct, osl, hfd, hlook, hcode⟩ := F.ex
  subst hfd
  constructor
  · exact hlen
  intro A fr s H as us vs Q E hgd room e0 hbind rel hs
  have kin : K.In s.heap := e0.mod.kin.keeps (fun b o h => (e0.bs b o h).1)
  have nol : s.heap.NoLimit := e0.mod.nolimit.keeps (fun b o h => (e0.bs b o h).1)
  have params : ∀ y ∈ ps.zip us, (defScope st).names.lookup y.1 = some .local ∨ ((defScope st).names.lookup y.1 = some .cell ∧ ((cellsFrom (s.heap.objs.size + 1) (defScope st).names []).lookup y.1).isSome = true) := by
    intro y hy
    have hy1 : y.1 ∈ ps := (List.of_mem_zip (show (y.1, y.2) ∈ ps.zip us from hy)).1
    cases S.par y.1 hy1 with
    | inl h => exact Or.inl h
    | inr h => exact Or.inr ⟨h, PySem.W.cellsFrom_some _ _ _ (Or.inl h)⟩
  refine codeAny_call_function room.depth (kin _ _ hlook) rfl S.co S.gen rfl (PySem.W.codeRec_of kin hcode) (hbind _ _ _ _ ?_)
  refine wpAny_newFunctionEnv_cells S.kind params (fun env henv s1 hin => ?_)
  subst henv
  obtain ⟨t, hterm, hread⟩ := hbody cdv A fr s H vs Q E hgd (room.deeper _) hs
  have inv := inv_start (CX := CX0) (E := E) S room.hd e0 (hlen _ _ _ _ hs) rel hin
  refine ⟨nol.keeps hin.toInCall.keep, codeAny_func (wpAny_mono (hterm.nox.run [] s1 (start N vs) H _ inv hread) ?_ (fun _ _ h => h))⟩
  intro fl s' hsp
  match fl, hsp with
  | .ret u, hsp =>
    obtain ⟨v, σ', H', J, rv, hq⟩ := hsp
    exact ⟨v, H', J.os, J.bare, J.base, J.hok, rv, hq⟩
  | .next, hsp =>
    obtain ⟨σ', H', J, hq⟩ := hsp
    exact ⟨V.non, H', J.os, J.bare, J.base, J.hok, rfl, hq⟩
  | .brk, hsp => exact hsp.choose_spec.choose_spec.2.elim
  | .cont, hsp => exact hsp.choose_spec.choose_spec.2.elim
end

section
variable {X : Cx} {CX : CXT} {k : Nat} {f C : Addr} {fd : FuncData} {ps ks : List Str} {sp : Sp} {dvs : List V} {ds : List Value} {E : XK} {x m : Str} {p pos apos : Pos} {e o : Expr} {es : List Expr} {ta : TE} {t tk : TA} {kws : List Keyword}
  {g : List Value → List Value → List Value} {gV : List V → List V → List V}
theorem runG_fn {pins : List (Addr × Obj)} {σ : L2.St} {H : Hp} {s : Shared} {Q : VK} {us : List Value} {vs : List V} (F : FnOkG X.prog X.w X.K X.mg X.base CX k f fd ps sp) (hgd : X.A.guards = some []) (room : Room k X.A) (hb : Binds X.K fd ps ds)
    (hd : Vals dvs ds) (hx : Passes CX X E) (I : Inv X pins σ H s) (r : Vals vs us) (h : sp (vs ++ dvs) H Q E) : wpAny (model X.prog X.w) X.A (call (.ref f) us) (EP X pins σ Q) X.xe s := by
  have rel : Vals (vs ++ dvs) (us ++ ds) := r.append hd
  have hlen : (us ++ ds).length = ps.length := rel.length.symm.trans (F.lenG _ _ _ _ h)
  refine wpAny_call (codeAny_mono (F.runG X.A X.stack s H ⟨us, []⟩ (us ++ ds) (vs ++ dvs) Q E hgd room I.env0 (hb s us I.kIn hlen) rel h) (fun r s' hq => ?_))
  match r, hq with
  | .error e, hq => exact hx pins σ H s e s' I hq
  | .ok (.ret u), hq => exact I.after hq
/-- f(e, ..) -/
theorem pe_callG (F : FnOkG X.prog X.w X.K X.mg X.base CX k f fd ps sp) (hgd : X.A.guards = some []) (room : Room k X.A) (hg : Gl X x) (hm : X.mg x = some (.ref f)) (hk : PySem.W.keepIn X.K (.ref f) = true) (hb : Binds X.K fd ps ds) (hd : Vals dvs ds)
    (hx : Passes CX X E) (ha : PA X (e :: es) t) (hdb : (x == ("__debug__" : Str)) = false := by decide) (he : starEach (e :: es) X.env = (false, eval e X.env) :: starEach es X.env := by rfl)
    (hpl : (backTo pos (starEach es X.env)).any (·.1) = false := by rfl) : PE X (.Call (.Name x p) (e :: es) [] pos) (tCall sp dvs E t) := by
  constructor
  intro pins s σ H Q I h
  refine wpAny_Call_Name_kw (ld_glob I hg hm (PySem.W.callWith_K (h₀ := X.base) I.ok.mod.kin hk (thn (ha.run pos pins s σ H _ I h) ?_) he hpl) hdb)
  rintro us s1 ⟨vs, H1, I1, r, hq⟩
  exact ⟨I1.kIn, runG_fn F hgd room hb hd hx I1 r hq⟩

/-- o.m(k = v, ..): keywords alone -/
def tMethK (C : Addr) (m : Str) (n : Nat) (sp : Sp) (gV : List V → List V → List V) (E : XK) (ta : TE) (tk : TA) : TE := fun σ H Q => ta σ H fun x H1 => ∃ a dx fs, x = .ref a ∧ H1 a = some (.ins C dx fs) ∧ fs.lookup m = none ∧
  tk σ H1 fun zs H2 => zs.length = n ∧ sp (gV [x] zs) H2 Q E
theorem pe_methK0 {pl : Sem Bool} (he : PE X o ta) (c : Cls X.K C) (hm : Meth X.K C m f) (F : FnOk X.prog X.w X.K X.mg X.base CX k f fd ps sp) (room : Room k X.A) (hb : KBn X.K fd ps 1 ks g gV) (hx : Passes CX X E) (hkw : PK X kws tk)
    (hall : (backToKw pos (keywordEach kws X.env)).all (·.1.isSome) = true := by rfl) (hks : (backToKw pos (keywordEach kws X.env)).filterMap (·.1) = ks := by rfl)
    (hpl : ((backTo pos (starEach [] X.env)).any (·.1) || (backToKw pos (keywordEach kws X.env)).any (·.1.isNone)) = false := by rfl)
    (ht : eval (.Call (.Attribute o m apos) [] kws pos) X.env = (do
      let ov ← eval o X.env
      standAt apos.atName
      let (f, first) ← holding [ov] (getMethod ov m pl)
      callWith pos f first (backTo pos (starEach [] X.env)) (backToKw pos (keywordEach kws X.env))) := by rfl) :
    PE X (.Call (.Attribute o m apos) [] kws pos) (tMethK C m ks.length sp gV E ta tk) := by
  constructor
  intro pins s σ H Q I h
  refine PySem.W.methodCall_KW (pl := pl) (thn (he.run pins s σ H _ I h) ?_) ht
  rintro u s1 ⟨x, H1, I1, rx, a, dx, fs, ex, ea, l, hq⟩
  subst ex
  obtain rfl : u = Value.ref a := rx
  refine getmeth_ok I1 ea c hm l (PySem.W.callWith_KW0 (h₀ := X.base) I1.ok.mod.kin hm.kp hall (thn (hkw.run pos pins s1 σ H1 _ I1 hq) ?_) hpl)
  rintro ws s2 ⟨zs, H2, I2, rz, l2, hs⟩
  refine ⟨I2.kIn, ?_⟩
  rw [hks]
  exact run_fnN (us := [.ref a]) (vs := [.ref a]) F room hb hx I2 (.cons rfl .nil) rz rfl l2 hs
end

/-- how keywords bind, for a def without defaults -/
theorem kbn_of {K : PySem.W.Frag} {x q : Str} {st : Stmt} {f : Addr} {fd : FuncData} {ps ks : List Str} {n : Nat} {g : List Value → List Value → List Value} {gV : List V → List V → List V} (F : Fun K x q st f fd)
    (h : ∀ (kV doc pm : Value) (an : Option Addr) (cdv ct : Value) (us ws : List Value), us.length = n → ws.length = ks.length → bindArgs (PySem.W.fnOf x q (defArgs st) (defBody st) (defScope st) .none kV doc pm an cdv ct) ⟨us, ks.zip ws⟩ = pure (ps.zip (g us ws)))
    (rel : ∀ {vs : List V} {us : List Value} {zs : List V} {ws : List Value}, Vals vs us → Vals zs ws → Vals (gV vs zs) (g us ws)) : KBn K fd ps n ks g gV := by
  obtain ⟨oc, od, kV, doc, pm, an, cdv, ct, osl, hfd, hlook, hcode⟩ := F.ex
  subst hfd
  exact ⟨fun s us ws _ l1 l2 => .of_eq (h kV doc pm an cdv ct us ws l1 l2), rel⟩

/-! ### repr of data -/
section
variable {X : Cx}
def rReprD (K : PySem.W.Frag) : List V → Hp → VK → Prop := fun xs H Q => ∃ x d, xs = [x] ∧ Dp K H x d ∧ d.showable = true ∧ d.hasDict = false ∧ d.depth ≤ 40 ∧ d.shown.length ≤ sizeLine ∧ Q (.str d.shown) H
theorem call_reprD {k : Nat} (hgd : X.A.guards = some []) (room : Room k X.A) : CallR X (.builtin "repr") (rReprD X.K) := by
  intro pins s σ H xs us Q I r h
  obtain ⟨x, d, rfl, hd, hs, hnd, hdep, hsz, hq⟩ := h
  obtain ⟨u, rfl, rx⟩ := vals1 r
  have un := room.units
  have fin : ∀ h' v tk, (∀ b o, s.heap.get? b = some o → h'.get? b = some o) → EP X pins σ Q (.str d.shown v) { s with heap := h', toks := tk } := fun h' v tk kp => ⟨.str d.shown, H, I.kept kp, ⟨_, rfl⟩, hq⟩
  obtain ⟨as, rd⟩ := Dp.reads I d x u hd rx
  cases rd with
  | none => exact PySem.P.repr_of_none (fin s.heap _ _ fun _ _ e => e)
  | bool b => cases b <;> exact PySem.P.repr_of_bool (fin s.heap _ _ fun _ _ e => e)
  | int i t =>
    refine PySem.P.repr_of_int (by simpa [PyData.showable] using hs) (fin s.heap _ _ fun _ _ e => e)
  | str y t => exact PySem.P.repr_of_str (fin s.heap _ _ fun _ _ e => e) hsz
  | list h1 h2 h3 h4 => exact repr_of_reads' (.list h1 h2 h3 h4) hs (fun z => by rw [hnd] at z; cases z) hgd (by omega) (fun _ _ e => e) fin hsz
  | tuple h1 h2 h3 h4 => exact repr_of_reads' (.tuple h1 h2 h3 h4) hs (fun z => by rw [hnd] at z; cases z) hgd (by omega) (fun _ _ e => e) fin hsz
  | dict h1 h2 h3 h4 h5 => simp [PyData.hasDict] at hnd
end
end MyG

/-! ### the law's own call, and the end of a row -/
namespace MyG
open PySem PySem.Spec PyProof.Rows L2
section
variable {P : Program} {w : World} {K : PySem.W.Frag} {mg mb : Str → Option Value} {CX : CXT} {k : Nat} {fa a : Addr} {fd : FuncData} {x : Str} {sp : Sp} {s₁ : Shared} {vs : List Value} {ns : List Int}
/-- from one abstract heap that knows at most the script -/
theorem lawG_at (H : Hp) (KX : K.In s₁.heap) (hns : s₁.heap.Ns mainGlobals mg) (hb : s₁.heap.Ns builtinsNs mb) (hbb : ∀ x : Str, x ≠ "__name__" → mb x = bootBuiltins x) (hlim : s₁.heap.NoLimit) (hgen : s₁.gens = #[])
    (ha : s₁.heap.get? a = some { cls := .type "list", data := .seq vs.toArray }) (room : Room k callerA)
    (F : ∀ base : Heap, K.In base → base.Ns mainGlobals mg → FnOkG P w K mg base CX k fa fd [x] sp) (hbind : ∀ (s : Shared) (u : Value), BindsTo s fd ⟨[u], []⟩ [(x, u)])
    (hsp : sp [.ref a] H (fun v _ => v = .bl true) fun _ _ _ => False) (hCX : ∀ e s', CX [] H s₁ (fun _ _ _ => False) e s' → False)
    (only : Only H) (hok : HOk P w H s₁.heap) (hA : ∀ b, H b ≠ none → b = a) (hK : H a ≠ none → K.lookup a = none) :
    codeAny (model P w) callerA (.call (.ref fa) ⟨[.ref a], []⟩) (fun r s' => r = .ok (.ret (.bool true)) ∧ OldK s₁.heap s'.heap ∧ s'.os = s₁.os ∧ AllBare s'.gens) s₁ := by
  have free : ∀ b : Addr, b ≠ a → H b = none := fun b hb => by
    cases e : H b with
    | none => rfl
    | some u => exact absurd (hA b (by rw [e]; exact fun z => nomatch z)) hb
  have hid : ∀ {b : Addr} {o : Obj}, s₁.heap.get? b = some o → H b = none → (hidT s₁.heap H).get? b = some o := fun h1 h2 => hidT_get h1 h2
  have dictFree : ∀ {b : Addr} {o : Obj} {es : Array DictEntry} {ep : Nat}, s₁.heap.get? b = some o → o.data = .dict es ep → H b = none := by
    intro b o es ep h1 h2
    by_cases hb : b = a
    · rw [hb, ha] at h1
      obtain rfl := Option.some.inj h1
      exact absurd h2 (fun z => nomatch z)
    · exact free b hb
  have nsH : ∀ {b : Addr} {m : Str → Option Value}, s₁.heap.Ns b m → (hidT s₁.heap H).Ns b m := by
    rintro b m ⟨o, es, ep, h1, h2, h3⟩
    exact ⟨o, es, ep, hid h1 (dictFree h1 h2), h2, h3⟩
  have kin : K.In (hidT s₁.heap H) := by
    intro b o h1
    refine hid (KX b o h1) ?_
    by_cases hb : b = a
    · cases e : H a with
      | none => rw [hb]; exact e
      | some u =>
        have z := hK (by rw [e]; exact fun z => nomatch z)
        rw [hb, z] at h1
        cases h1
    · exact free b hb
  have md : Mod K mg (hidT s₁.heap H) := by
    obtain ⟨mc, l1, l2⟩ := hlim
    exact ⟨kin, nsH hns, ⟨mb, nsH hb, hbb⟩, ⟨mc, nsH l1, l2⟩⟩
  have env : Env0 P w K mg (hidT s₁.heap H) callerA [] s₁ H := { frames := rfl, mod := md, bs := fun b o h1 => of_hidT h1, bsz := Nat.le_of_eq (hidT_size _ _), funs := trivial, frf := fun b hb => (List.not_mem_nil hb).elim, hok := hok, bare := .of_eq hgen }
  refine codeAny_mono ((F _ kin (nsH hns)).runG callerA [] s₁ H ⟨[.ref a], []⟩ [.ref a] [.ref a] _ _ rfl room env (hbind s₁ (.ref a)) (.cons rfl .nil) hsp) ?_
  intro r s' hr
  match r, hr with
  | .error e, hr => exact (hCX e s' hr).elim
  | .ok (.ret u), hr =>
    obtain ⟨v, H', hos, hbare, un, hok', rv, hv⟩ := hr
    obtain rfl : v = V.bl true := hv
    obtain rfl : u = Value.bool true := rv
    refine ⟨rfl, OldK.of_keep ?_, hos, hbare⟩
    intro b o h1
    rcases only b with z | ⟨ob, xs, z⟩
    · exact un.keep b o h1 z (fun q => (List.not_mem_nil q).elim) (fun q => (List.not_mem_nil q).elim)
    · have e1 := (hok b _ z).1
      have e2 := (hok' b _ (un.frzs b ob _ z)).1
      rw [h1] at e1
      rw [Option.some.inj e1]
      exact e2
theorem law_callG (KX : K.In s₁.heap) (hns : s₁.heap.Ns mainGlobals mg) (hb : s₁.heap.Ns builtinsNs mb) (hbb : ∀ x : Str, x ≠ "__name__" → mb x = bootBuiltins x) (hlim : s₁.heap.NoLimit) (hgen : s₁.gens = #[])
    (ha : s₁.heap.get? a = some { cls := .type "list", data := .seq vs.toArray }) (hi : IntsAre vs ns) (hl : ns.length ≤ sizeLine) (room : Room k callerA)
    (F : ∀ base : Heap, K.In base → base.Ns mainGlobals mg → FnOkG P w K mg base CX k fa fd [x] sp) (hbind : ∀ (s : Shared) (u : Value), BindsTo s fd ⟨[u], []⟩ [(x, u)])
    (hsp : ∀ H : Hp, Only H → SqL K H a (ns.map V.int) → sp [.ref a] H (fun v _ => v = .bl true) fun _ _ _ => False) (hCX : ∀ H e s', CX [] H s₁ (fun _ _ _ => False) e s' → False) :
    codeAny (model P w) callerA (.call (.ref fa) ⟨[.ref a], []⟩) (fun r s' => r = .ok (.ret (.bool true)) ∧ OldK s₁.heap s'.heap ∧ s'.os = s₁.os ∧ AllBare s'.gens) s₁ := by
  have rv := vals_ints hi
  have lenV := hi.length
  cases hk : K.lookup a with
  | some o =>
    have e1 := KX a o hk
    rw [ha] at e1
    obtain rfl := Option.some.inj e1
    have only : Only (fun _ => none) := fun b => .inl rfl
    refine lawG_at (fun _ => none) KX hns hb hbb hlim hgen ha room F hbind (hsp _ only ?_) (hCX _) only (fun b u z => nomatch z) (fun b z => absurd rfl z) (fun z => absurd rfl z)
    exact .inr ⟨_, vs.toArray, _, hk, rfl, rfl, rfl, by rw [List.size_toArray, lenV]; exact hl, by simpa using rv⟩
  | none =>
    have at_a : ∀ {o : HO}, (fun b => if b = a then some o else none : Hp) a = some o := if_pos rfl
    have off_a : ∀ {o : HO} {b : Addr}, b ≠ a → (fun b => if b = a then some o else none : Hp) b = none := fun h => if_neg h
    have only : Only (fun b => if b = a then some (.frz { cls := .type "list", data := .seq vs.toArray } (.lst (ns.map V.int))) else none) := fun b => by
      by_cases hb : b = a
      · exact .inr ⟨_, _, by rw [hb]; exact at_a⟩
      · exact .inl (off_a hb)
    refine lawG_at _ KX hns hb hbb hlim hgen ha room F hbind (hsp _ only (.inl (.inr ⟨_, at_a⟩))) (hCX _) only ?_ ?_ (fun _ => hk)
    · intro b u z
      by_cases hb : b = a
      · subst hb
        obtain rfl := Option.some.inj (at_a.symm.trans z)
        exact ⟨ha, by rw [List.length_map]; exact hl, vs, _, rv, ha⟩
      · exact absurd ((off_a hb).symm.trans z) (fun q => nomatch q)
    · intro b z
      by_cases hb : b = a
      · exact hb
      · exact absurd (off_a hb) z
end
theorem walk_ofG {l : PySem.W.OpenLaw} {n k : Nat} {q : Program} {loose : List Str} {XP : (Str → Option Value) → Heap → Prop} {YP : World → Heap → Prop} {d : DefRec} {K : Params → PySem.W.Frag} {CX : World → CXT} {sp : World → Sp} {x : Str}
    (hn : l.most = some n) (hn2 : n ≤ sizeLine) (hdf : d.params.defaults = []) (room : Room k callerA) (hY : ∀ (w : World) (h : Heap), YP w h → (K w.params).In h)
    (F : ∀ (w : World) (mg : Str → Option Value) (fa : Addr) (h : Heap), (K w.params).In h → h.Ns mainGlobals mg → mg d.name = some (.ref fa) →
      ∃ fd : FuncData, (∀ (s : Shared) (u : Value), BindsTo s fd ⟨[u], []⟩ [(x, u)]) ∧ ∀ base : Heap, (K w.params).In base → base.Ns mainGlobals mg → FnOkG l.prog w (K w.params) mg base (CX w) k fa fd [x] (sp w))
    (hsp : ∀ (w : World) (H : Hp) (a : Addr) (ns : List Int), ns.length ≤ n → Only H → SqL (K w.params) H a (ns.map V.int) → sp w [.ref a] H (fun v _ => v = .bl true) fun _ _ _ => False)
    (hCX : ∀ (w : World) (H : Hp) (s : Shared) (e : Value) (s' : Shared), CX w [] H s (fun _ _ _ => False) e s' → False) : PySem.W.WalkO q loose XP YP l.row.toRowW d [] (fun f vs => PySem.call f vs) := by
  refine Att.attach_call hn hdf ?_
  intro w s₀ s₁ mg mb fa o pm cd doc a vs ns G Y ho hd hcd hmg hobj hints hlen hgen
  obtain ⟨fd, hbind, hF⟩ := F w mg fa _ (hY w _ Y) G.T.g hmg
  exact law_callG (hY w _ Y) G.T.g G.T.b G.T.builtins G.T.nolimit hgen hobj hints (Nat.le_trans hlen hn2) room hF hbind (hsp w · a ns hlen · ·) (fun H e s' => hCX w H s₁ e s')
end MyG

set_option maxHeartbeats 2000000
/-! len(set(xs)) of whole numbers, alike or not; what stands for a thing of any kind. -/
namespace MyG
open PySem PySem.Spec PyProof.Rows L2 Evl
theorem met_len {ns : List Int} : ∀ i, i ≤ ns.length → (firstMet (fun i => ns.getD i 0) i).length = i → (ns.take i).Nodup
  | 0, _, _ => by simp
  | i + 1, hi, h => by
    have hlt : i < ns.length := hi
    rw [firstMet_succ] at h
    unfold step_dedup at h
    have le := firstMet_length_le (fun i => ns.getD i 0) i
    by_cases c : (firstMet (fun i => ns.getD i 0) i).any (· == ns.getD i 0) = true
    · rw [if_pos c] at h
      omega
    · rw [if_neg c, List.length_append, List.length_singleton] at h
      have ih := met_len i (Nat.le_of_lt hlt) (by omega)
      rw [firstMet_any] at c
      rw [List.take_add_one, List.getElem?_eq_getElem hlt]
      show (ns.take i ++ [ns[i]]).Nodup
      rw [List.nodup_append]
      refine ⟨ih, by simp, fun a ha b hb e => c ?_⟩
      obtain rfl := List.mem_singleton.mp hb
      subst e
      rw [List.any_eq_true]
      obtain ⟨j, hj, ej⟩ := List.getElem_of_mem ha
      rw [List.length_take] at hj
      refine ⟨ns.getD j 0, List.mem_map.mpr ⟨j, List.mem_range.mpr (by omega), rfl⟩, ?_⟩
      rw [List.getElem_take] at ej
      rw [List.getD_eq_getElem?_getD, List.getD_eq_getElem?_getD, List.getElem?_eq_getElem hlt, List.getElem?_eq_getElem (by omega : j < ns.length)]
      show (ns[j] == ns[i]) = true
      rw [ej]
      exact beq_self_eq_true _
theorem met_iff (ns : List Int) : (firstMet (fun i => ns.getD i 0) ns.length).length = ns.length ↔ ns.Nodup := by
  constructor
  · intro h
    have z := met_len ns.length (Nat.le_refl _) h
    rwa [List.take_length] at z
  · intro h
    rw [RZ.firstMet_nodup h ns.length (Nat.le_refl _), List.take_length]
def tLenSetG (K : PySem.W.Frag) (ta : TE) : TE := fun σ H Q => ta σ H fun x H1 => ∃ (l : Addr) (ns : List Int), x = .ref l ∧ SqL K H1 l (ns.map V.int) ∧ ns.length ≤ 4000 ∧ ∀ n : Nat, (n = ns.length ↔ ns.Nodup) → Q (.int n) H1
theorem pe_lenSetG {X : Cx} {a : Expr} {ta : TE} {p p2 q pos : Pos} (hg : Gl X "len") (hm : X.mg "len" = none) (hg2 : Gl X "set") (hm2 : X.mg "set" = none) (ha : PE X a ta) (hc : X.calm = true := by rfl)
    (na : starEach [a] X.env = (false, eval a X.env) :: starEach [] X.env := by rfl) : PE X (.Call (.Name "len" p) [.Call (.Name "set" p2) [a] [] q] [] pos) (tLenSetG X.K ta) := by
  constructor
  intro pins s σ H Q I h
  refine Call_ (ld_blt I hg hm boot_len (callWith_builtin1 (args_cons ?_ rfl) rfl rfl))
  refine Call_ (ld_blt I hg2 hm2 boot_set (callWith_type1 (args_cons (thn (ha.run pins s σ H _ I h) ?_) na) na rfl))
  rintro v s1 ⟨x, H1, I1, r1, l, ns, rfl, hq, hl, q1⟩
  refine args_nil ?_
  cases r1
  obtain ⟨its, r, pl, hz⟩ := I1.list hq
  have size : its.toArray.size = ns.length := by rw [List.size_toArray, ← r.length, List.length_map]
  refine call_set_list (I1.ok.hd hc) pl.isList (ns := ns) (by simpa using r.ints) (by rw [size]; unfold scanBound; omega) (fun h' tk hS hk => args_nil ?_)
  rw [size] at hS
  have le := firstMet_length_le (fun i => ns.getD i 0) ns.length
  obtain ⟨o, es, ep, t, ho, hex, hd, _, _, _, hf, hn⟩ := hS
  have I2 : Inv X pins σ H1 { s1 with heap := h', toks := tk } := I1.kept fun b o e => hk b o (Heap.lt_size e) e
  exact call_len_set ho hex hd hf (by rw [hn]; omega) ⟨.int ((firstMet (fun i => ns.getD i 0) ns.length).length : Nat), H1, I2.tok _, ⟨_, by rw [hn]⟩, q1 _ (met_iff ns)⟩
/-! ### a thing of any kind, and its kind -/
inductive AnyT (H : Hp) : V → String → Prop
  | non : AnyT H .non "NoneType"
  | bl (b : Bool) : AnyT H (.bl b) "bool"
  | int (i : Int) : AnyT H (.int i) "int"
  | str (x : Str) : AnyT H (.str x) "str"
  | lst {a : Addr} {xs : List V} (h : H a = some (.lst xs)) : AnyT H (.ref a) "list"
  | tup {a : Addr} {xs : List V} (h : H a = some (.tup xs)) : AnyT H (.ref a) "tuple"
  | dK {a : Addr} {xs : List (Key × V)} (h : H a = some (.dK xs)) : AnyT H (.ref a) "dict"
theorem AnyT.ext {H H' : Hp} (e : Ex H H') {x : V} {t : String} (h : AnyT H x t) : AnyT H' x t := by
  cases h with
  | non => exact .non
  | bl b => exact .bl b
  | int i => exact .int i
  | str x => exact .str x
  | lst h => exact .lst (e _ _ h)
  | tup h => exact .tup (e _ _ h)
  | dK h => exact .dK (e _ _ h)
theorem AnyT.ty {K : PySem.W.Frag} {H : Hp} {x : V} {t : String} (h : AnyT H x t) : TyX K H x (.type t) := by
  cases h with
  | non => exact .base .non
  | bl b => exact .base (.bl b)
  | int i => exact .base (.int i)
  | str x => exact .base (.str x)
  | lst h => exact .base (.lst h)
  | tup h => exact .base (.tup h)
  | dK h => exact .base (.dK h)
abbrev kinds7 : List String := ["NoneType", "bool", "int", "str", "list", "tuple", "dict"]
theorem AnyT.mem {H : Hp} {x : V} {t : String} (h : AnyT H x t) : t ∈ kinds7 := by
  cases h <;> decide
theorem kit7 : (kinds7.all fun t => decide (kitB t "int" = some (t == "int" || t == "bool")) && decide (kitB t "bool" = some (t == "bool")) && decide (kitB t "list" = some (t == "list")) && decide (kitB t "tuple" = some (t == "tuple")) && decide (kitB t "str" = some (t == "str")) && decide (kitB t "dict" = some (t == "dict"))) = true := by decide +kernel
theorem kit_all {t : String} (h : t ∈ kinds7) : kitB t "int" = some (t == "int" || t == "bool") ∧ kitB t "bool" = some (t == "bool") ∧ kitB t "list" = some (t == "list") ∧ kitB t "tuple" = some (t == "tuple") ∧ kitB t "str" = some (t == "str") ∧ kitB t "dict" = some (t == "dict") := by
  have z := List.all_eq_true.mp kit7 t h
  simp only [Bool.and_eq_true, decide_eq_true_eq] at z
  exact ⟨z.1.1.1.1.1, z.1.1.1.1.2, z.1.1.1.2, z.1.1.2, z.1.2, z.2⟩
/-- isinstance(x, T) of a thing of any kind -/
theorem isi_int {K : PySem.W.Frag} {H : Hp} {x : V} {t : String} {Q : VK} (h : AnyT H x t) (q : Q (.bl (t == "int" || t == "bool")) H) : rIsi K [x, .ty "int"] H Q := ⟨x, .ty "int", .type t, .type "int", _, rfl, .ty _, h.ty, kit_ty (kit_all h.mem).1, q⟩
theorem isi_bool {K : PySem.W.Frag} {H : Hp} {x : V} {t : String} {Q : VK} (h : AnyT H x t) (q : Q (.bl (t == "bool")) H) : rIsi K [x, .ty "bool"] H Q := ⟨x, .ty "bool", .type t, .type "bool", _, rfl, .ty _, h.ty, kit_ty (kit_all h.mem).2.1, q⟩
theorem isi_list {K : PySem.W.Frag} {H : Hp} {x : V} {t : String} {Q : VK} (h : AnyT H x t) (q : Q (.bl (t == "list")) H) : rIsi K [x, .ty "list"] H Q := ⟨x, .ty "list", .type t, .type "list", _, rfl, .ty _, h.ty, kit_ty (kit_all h.mem).2.2.1, q⟩
theorem isi_tuple {K : PySem.W.Frag} {H : Hp} {x : V} {t : String} {Q : VK} (h : AnyT H x t) (q : Q (.bl (t == "tuple")) H) : rIsi K [x, .ty "tuple"] H Q := ⟨x, .ty "tuple", .type t, .type "tuple", _, rfl, .ty _, h.ty, kit_ty (kit_all h.mem).2.2.2.1, q⟩
theorem isi_str {K : PySem.W.Frag} {H : Hp} {x : V} {t : String} {Q : VK} (h : AnyT H x t) (q : Q (.bl (t == "str")) H) : rIsi K [x, .ty "str"] H Q := ⟨x, .ty "str", .type t, .type "str", _, rfl, .ty _, h.ty, kit_ty (kit_all h.mem).2.2.2.2.1, q⟩
theorem isi_dict {K : PySem.W.Frag} {H : Hp} {x : V} {t : String} {Q : VK} (h : AnyT H x t) (q : Q (.bl (t == "dict")) H) : rIsi K [x, .ty "dict"] H Q := ⟨x, .ty "dict", .type t, .type "dict", _, rfl, .ty _, h.ty, kit_ty (kit_all h.mem).2.2.2.2.2, q⟩
end MyG

set_option maxHeartbeats 2000000
/-! Data that can be shown and compared, by its size. -/
namespace MyG
open PySem PySem.Spec PyProof.Rows L2 Evl
/-- k: how deep, L: how long its text is at most -/
structure Small (d : PyData) (k L : Nat) : Prop where
  sh : d.showable = true
  nd : d.hasDict = false
  dp : d.depth ≤ k
  ln : d.shown.length ≤ L
  cl : d.canLay0 = true
structure SmallAll (ds : List PyData) (k L : Nat) : Prop where
  sh : PyData.showableAll ds = true
  nd : PyData.hasDictAll ds = false
  dp : PyData.depthAll ds ≤ k
  ln : ((PyData.shownAll ds).map (·.length)).sum ≤ ds.length * L
  ll : (PyData.shownAll ds).length = ds.length
  cl : PyData.canLayAll0 ds = true
theorem Small.all {k L : Nat} : ∀ {ds : List PyData}, (∀ d ∈ ds, Small d k L) → SmallAll ds k L
  | [], _ => ⟨rfl, rfl, Nat.zero_le _, Nat.zero_le _, rfl, rfl⟩
  | d :: ds, h => by
    have h1 := h d (List.mem_cons_self ..)
    have h2 := Small.all fun e he => h e (List.mem_cons_of_mem d he)
    refine ⟨?_, ?_, ?_, ?_, ?_, ?_⟩
    · simp only [PyData.showableAll, h1.sh, h2.sh, Bool.and_self]
    · simp only [PyData.hasDictAll, h1.nd, h2.nd, Bool.or_self]
    · simp only [PyData.depthAll]; exact Nat.max_le.mpr ⟨h1.dp, h2.dp⟩
    · have a := h1.ln
      have b := h2.ln
      simp only [PyData.shownAll, List.map_cons, List.sum_cons, List.length_cons]
      rw [Nat.add_mul, Nat.one_mul]
      omega
    · simp only [PyData.shownAll, List.length_cons, h2.ll]
    · simp only [PyData.canLayAll0, h1.cl, h2.cl, Bool.and_self]
theorem small_list {k L : Nat} {ds : List PyData} (h : ∀ d ∈ ds, Small d k L) : Small (.list ds) (k + 1) (ds.length * (L + 2) + 3) := by
  have a := Small.all h
  refine ⟨by simpa only [PyData.showable] using a.sh, by simpa only [PyData.hasDict] using a.nd, by simp only [PyData.depth]; have := a.dp; omega, ?_, by simpa only [PyData.canLay0] using a.cl⟩
  simp only [PyData.shown]
  have b := listText_len_le (PyData.shownAll ds)
  have c := a.ln
  rw [a.ll] at b
  rw [Nat.mul_add]
  omega
theorem small_tuple {k L : Nat} {ds : List PyData} (h : ∀ d ∈ ds, Small d k L) : Small (.tuple ds) (k + 1) (ds.length * (L + 2) + 3) := by
  have a := Small.all h
  refine ⟨by simpa only [PyData.showable] using a.sh, by simpa only [PyData.hasDict] using a.nd, by simp only [PyData.depth]; have := a.dp; omega, ?_, by simpa only [PyData.canLay0] using a.cl⟩
  simp only [PyData.shown]
  have b := tupleText_len_le (PyData.shownAll ds)
  have c := a.ln
  rw [a.ll] at b
  rw [Nat.mul_add]
  omega
theorem Small.mono {d : PyData} {k L k' L' : Nat} (h : Small d k L) (hk : k ≤ k') (hL : L ≤ L') : Small d k' L' := ⟨h.sh, h.nd, Nat.le_trans h.dp hk, Nat.le_trans h.ln hL, h.cl⟩
theorem Small.shaped {d : PyData} {k L : Nat} (h : Small d k L) (hk : k ≤ 64) : SeqAt.shaped d = true := by
  unfold SeqAt.shaped
  rw [h.cl, decide_eq_true (Nat.le_trans h.dp hk)]
  rfl
theorem small_int {i : Int} (h : i.natAbs < 10 ^ 9) : Small (.int i) 0 10 := by
  have h9 : i.natAbs < 2 ^ 1920 := Nat.lt_of_lt_of_le h (by decide +kernel)
  refine ⟨?_, rfl, Nat.le_refl _, ?_, rfl⟩
  · simp only [PyData.showable]
    refine decide_eq_true ?_
    by_cases z : i.natAbs = 0
    · rw [z]; decide
    · exact (Nat.log2_lt z).mpr h9
  · simp only [PyData.shown]
    have := int_text_length_le10 (a := i) (k := 9) (by decide) h
    rw [PySem.ofString_length]
    exact this
/-! ### data in a heap -/
theorem dp_ints {K : PySem.W.Frag} {H : Hp} : ∀ ns : List Int, DpAll K H (ns.map V.int) (ns.map PyData.int)
  | [] => .nil
  | n :: ns => .cons (.int n) (dp_ints ns)
mutual
theorem Dp.ext {K : PySem.W.Frag} {H H' : Hp} (e : Ex H H') : ∀ {v : V} {d : PyData}, Dp K H v d → Dp K H' v d
  | _, _, .non => .non
  | _, _, .bl b => .bl b
  | _, _, .int i => .int i
  | _, _, .str x => .str x
  | _, _, .lst h a => .lst (ex_l e h) (DpAll.ext e a)
  | _, _, .tup h a => .tup (ex_t e h) (DpAll.ext e a)
theorem DpAll.ext {K : PySem.W.Frag} {H H' : Hp} (e : Ex H H') : ∀ {vs : List V} {ds : List PyData}, DpAll K H vs ds → DpAll K H' vs ds
  | _, _, .nil => .nil
  | _, _, .cons h a => .cons (Dp.ext e h) (DpAll.ext e a)
end
theorem eqvAll_ints_nil {ns : List Int} : PyData.eqvAll (ns.map PyData.int) [] = ns.isEmpty := by
  cases ns with
  | nil => rfl
  | cons x r => rfl
theorem repr_ok {K : PySem.W.Frag} {x : V} {d : PyData} {H : Hp} {Q : VK} {k L : Nat} (h : Dp K H x d) (s : Small d k L) (hk : k ≤ 40) (hL : L ≤ 16000000) (q : Q (.str d.shown) H) : rReprD K [x] H Q :=
  ⟨x, d, rfl, h, s.sh, s.nd, Nat.le_trans s.dp hk, Nat.le_trans (Nat.le_trans s.ln hL) (by rw [sizeLine_eq]; decide), q⟩
end MyG

/-! ### one layer of a reading opened -/
namespace MyG
open PySem PySem.Spec PyProof.Rows L2 Evl
section
variable {σ : L2.St} {H : Hp} {Q : VK} {ta tb : TE} {t : TT} {tt tu : TS} {D : Ends} {g : TG} {as tr : TA}
theorem un_and (h : ta σ H fun x H1 => ∃ c, x = .bl c ∧ if c = true then tb σ H1 Q else Q (.bl false) H1) : tAndV ta tb σ H Q := h
theorem un_or (h : ta σ H fun x H1 => ∃ c, x = .bl c ∧ if c = true then Q (.bl true) H1 else tb σ H1 Q) : tOrV ta tb σ H Q := h
theorem un_cb {r : List V → Hp → VK → Prop} (h : as σ H fun vs H1 => r vs H1 Q) : tCB r as σ H Q := h
theorem un_call {sp : Sp} {dvs : List V} {E : XK} (h : as σ H fun vs H1 => sp (vs ++ dvs) H1 Q E) : tCall sp dvs E as σ H Q := h
theorem un_cons {R : List V → Hp → Prop} (h : ta σ H fun x H1 => tr σ H1 fun xs H2 => R (x :: xs) H2) : tCons ta tr σ H R := h
theorem un_op {r : R2} (h : ta σ H fun x H1 => tb σ H1 fun y H2 => r x y H2 Q) : tOp r ta tb σ H Q := h
theorem un_test {R : Bool → Hp → Prop} (h : ta σ H fun x H' => ∃ k, x = .bl k ∧ R k H') : tTest ta σ H R := h
theorem un_lst (h : as σ H fun xs H1 => xs.length ≤ sizeLine ∧ ∀ p, H1 p = none → Q (.ref p) (upd H1 p (.lst xs))) : tLst as σ H Q := h
theorem un_ret (h : ta σ H D.rt) : tRet ta D σ H := h
theorem un_asg (h : ta σ H fun x H1 => g x σ H1 D.nx) : tAsg ta g D σ H := h
theorem un_seq (h : tt { D with nx := tu D } σ H) : tSeq tt tu D σ H := h
theorem un_if (h : t σ H fun b H1 => if b = true then tt D σ H1 else tu D σ H1) : tIfS t tt tu D σ H := h
end
end MyG
namespace MyG
open PySem PySem.Spec PyProof.Rows L2 Evl
section
variable {σ : L2.St} {H : Hp} {ta : TE} {t : TT} {R : Bool → Hp → Prop}
theorem un_not (h : t σ H fun c H1 => R (!c) H1) : tNot t σ H R := h
theorem un_tB (h : ta σ H fun x H1 => ∃ c, x = .bl c ∧ R c H1) : tB ta σ H R := h
theorem un_c {v : V} {Q : VK} (h : Q v H) : tC v σ H Q := h
theorem un_next {D : Ends} (h : D.nx σ H) : tNext D σ H := h
theorem un_yes (h : R true H) : tYes σ H R := h
end
end MyG

/-! ### the layer's rules with the written part named (for the blocks of comprehensions) -/
namespace MyG
open PySem PySem.Spec PyProof.Rows L2 Evl
section
variable {X : Cx} {K : PySem.W.Frag}
def rLenQ (K : PySem.W.Frag) : List V → Hp → VK → Prop := fun xs H Q => ∃ p ys, xs = [.ref p] ∧ (SqL K H p ys ∨ SqT K H p ys) ∧ Q (.int ys.length) H
def rListQ (K : PySem.W.Frag) : List V → Hp → VK → Prop := fun xs H Q => ∃ p ys, xs = [.ref p] ∧ (SqL K H p ys ∨ SqT K H p ys) ∧ ∀ l, H l = none → Q (.ref l) (upd H l (.lst ys))
theorem ix_listK (h : X.K = K) : IxR X (rIxL K) := by subst h; exact ix_list
theorem ix_tupK (h : X.K = K) : IxR X (rIxT K) := by subst h; exact ix_tup
theorem op_inK (h : X.K = K) : OpR X (compareOp .In) (rIn K false) := by subst h; exact op_in_seq
theorem op_niK (h : X.K = K) : OpR X (compareOp .NotIn) (rIn K true) := by subst h; exact op_notIn_seq
theorem op_eqK (h : X.K = K) (hu : X.A.units + 64 < cLine) : OpR X (compareOp .Eq) (rEqD K) := by subst h; exact op_eqD hu
theorem op_neK (h : X.K = K) (hu : X.A.units + 64 < cLine) : OpR X (compareOp .NotEq) (rNeD K) := by subst h; exact op_neD hu
theorem sl_listK (h : X.K = K) : SlR X (rSlL K) := by subst h; exact sl_list
theorem sl_tupK (h : X.K = K) : SlR X (rSlT K) := by subst h; exact sl_tup
theorem catTK (h : X.K = K) : OpR X (binaryOp .Add) (rCatT K) := by subst h; exact op_catT
theorem lenK (h : X.K = K) : CallR X (.builtin "len") (rLenQ K) := by subst h; exact call_len_seq
theorem listK (h : X.K = K) : CallR X (.type "list") (rListQ K) := by subst h; exact call_list_of
theorem sumK (h : X.K = K) (hc : X.calm = true) : CallR X (.builtin "sum") (rSum K) := by subst h; exact cr_sum hc
theorem allK (h : X.K = K) (hc : X.calm = true) : CallR X (.builtin "all") (rAll K) := by subst h; exact cr_all hc
theorem sortedK (h : X.K = K) : CallR X (.builtin "sorted") (rSorted K) := by subst h; exact cr_sorted
theorem isiK (h : X.K = K) : CallR X (.builtin "isinstance") (rIsi K) := by subst h; exact call_isi
theorem reprK {k : Nat} (h : X.K = K) (hgd : X.A.guards = some []) (room : Room k X.A) : CallR X (.builtin "repr") (rReprD K) := by subst h; exact call_reprD hgd room
theorem fldK {e : Expr} {ta : TE} {f : Str} {pos : Pos} (h : X.K = K) (he : PE X e ta) (hb : attributeBase e f X.env (eval e X.env) = eval e X.env) : PE X (.Attribute e f pos) (tFld K ta f) := by subst h; exact pe_fld he hb
theorem iListK {tg l : Expr} {tl : TE} (h : X.K = K) (hl : PE X l tl) : PI X tg l (iList K tl) := by subst h; exact pi_list hl
theorem iTupK {tg l : Expr} {tl : TE} (h : X.K = K) (hl : PE X l tl) : PI X tg l (iTup K tl) := by subst h; exact pi_tup hl
theorem lenSetK {a : Expr} {ta : TE} {p p2 q pos : Pos} (h : X.K = K) (hg : Gl X "len") (hm : X.mg "len" = none) (hg2 : Gl X "set") (hm2 : X.mg "set" = none) (ha : PE X a ta) (hc : X.calm = true := by rfl)
    (na : starEach [a] X.env = (false, eval a X.env) :: starEach [] X.env := by rfl) : PE X (.Call (.Name "len" p) [.Call (.Name "set" p2) [a] [] q] [] pos) (tLenSetG K ta) := by subst h; exact pe_lenSetG hg hm hg2 hm2 ha hc na
end
end MyG

set_option maxHeartbeats 2000000
namespace K01
open PySem PySem.Spec PyProof.Rows L2 Evl MyG
/-! ### the text by places -/
def top (i : Nat) : Stmt := PySem.Challenge.pw_ringless_k01_nets_made.main.body.getD i (.Pass ⟨0, 0, 0, 0⟩)
abbrev s_l_state : Stmt := (top 19)
abbrev n_l_state : List Str := ["_law_script", "_law_cells", "_law_cell"]
theorem sc_l_state : FnScope ["_law_script", "_law_cells", "_law_cell"] ["_law_script"] (defScope s_l_state) := ⟨rfl, rfl, rfl, by decide +kernel, rfl, by decide +kernel, by decide +kernel⟩
abbrev s_l_draw : Stmt := (top 20)
abbrev n_l_draw : List Str := ["_law_state_here", "_law_many", "_law_at", "_law_cell"]
theorem sc_l_draw : FnScope ["_law_state_here", "_law_many", "_law_at", "_law_cell"] ["_law_state_here", "_law_many"] (defScope s_l_draw) := ⟨rfl, rfl, rfl, by decide +kernel, rfl, by decide +kernel, by decide +kernel⟩
abbrev s_l_places : Stmt := (top 21)
abbrev n_l_places : List Str := ["_law_state_here", "_law_found", "_law_turn", "_law_way", "_law_one"]
theorem sc_l_places : FnScope ["_law_state_here", "_law_found", "_law_turn", "_law_way", "_law_one"] ["_law_state_here"] (defScope s_l_places) := ⟨rfl, rfl, rfl, by decide +kernel, rfl, by decide +kernel, by decide +kernel⟩
abbrev s_l_roads : Stmt := (top 22)
abbrev n_l_roads : List Str := ["_law_state_here", "_law_places_here", "_law_found", "_law_turn", "_law_left", "_law_one", "_law_other"]
theorem sc_l_roads : FnScope ["_law_state_here", "_law_places_here", "_law_found", "_law_turn", "_law_left", "_law_one", "_law_other"] ["_law_state_here", "_law_places_here"] (defScope s_l_roads) := ⟨rfl, rfl, rfl, by decide +kernel, rfl, by decide +kernel, by decide +kernel⟩
abbrev s_l_beyond : Stmt := (top 23)
abbrev n_l_beyond : List Str := ["_law_row", "_law_place"]
theorem sc_l_beyond : FnScope ["_law_row", "_law_place"] ["_law_row", "_law_place"] (defScope s_l_beyond) := ⟨rfl, rfl, rfl, by decide +kernel, rfl, by decide +kernel, by decide +kernel⟩
abbrev s_is_number : Stmt := (top 13)
abbrev n_is_number : List Str := ["thing"]
theorem sc_is_number : FnScope ["thing"] ["thing"] (defScope s_is_number) := ⟨rfl, rfl, rfl, by decide +kernel, rfl, by decide +kernel, by decide +kernel⟩
abbrev s__are_halls : Stmt := (top 14)
abbrev n__are_halls : List Str := ["things", "thing"]
theorem sc__are_halls : FnScope ["things", "thing"] ["things"] (defScope s__are_halls) := ⟨rfl, rfl, rfl, by decide +kernel, rfl, by decide +kernel, by decide +kernel⟩
abbrev s__is_link : Stmt := (top 15)
abbrev n__is_link : List Str := ["thing", "halls", "one", "other", "cost", "part"]
theorem sc__is_link : FnScope ["thing", "halls", "one", "other", "cost", "part"] ["thing", "halls"] (defScope s__is_link) := ⟨rfl, rfl, rfl, by decide +kernel, rfl, by decide +kernel, by decide +kernel⟩
abbrev s__are_links : Stmt := (top 16)
abbrev n__are_links : List Str := ["things", "halls", "thing"]
theorem sc__are_links : FnScope ["things", "halls", "thing"] ["things", "halls"] (defScope s__are_links) := ⟨rfl, rfl, rfl, by decide +kernel, rfl, by decide +kernel, by decide +kernel⟩
abbrev s_Net___init__ : Stmt := (inClass (top 17) 0)
abbrev n_Net___init__ : List Str := ["self", "halls", "links"]
theorem sc_Net___init__ : FnScope ["self", "halls", "links"] ["self", "halls", "links"] (defScope s_Net___init__) := ⟨rfl, rfl, rfl, by decide +kernel, rfl, by decide +kernel, by decide +kernel⟩
abbrev s_Net_halls : Stmt := (inClass (top 17) 2)
abbrev n_Net_halls : List Str := ["self"]
theorem sc_Net_halls : FnScope ["self"] ["self"] (defScope s_Net_halls) := ⟨rfl, rfl, rfl, by decide +kernel, rfl, by decide +kernel, by decide +kernel⟩
abbrev s_Net_links : Stmt := (inClass (top 17) 4)
abbrev n_Net_links : List Str := ["self"]
theorem sc_Net_links : FnScope ["self"] ["self"] (defScope s_Net_links) := ⟨rfl, rfl, rfl, by decide +kernel, rfl, by decide +kernel, by decide +kernel⟩
abbrev s_Net_most : Stmt := (inClass (top 17) 5)
abbrev n_Net_most : List Str := ["self", "link"]
theorem sc_Net_most : FnScope ["self", "link"] ["self"] (defScope s_Net_most) := ⟨rfl, rfl, rfl, by decide +kernel, rfl, by decide +kernel, by decide +kernel⟩
abbrev s_Net_doors : Stmt := (inClass (top 17) 6)
abbrev n_Net_doors : List Str := ["self", "hall", "link", "one", "other", "_"]
theorem sc_Net_doors : FnScope ["self", "hall", "link", "one", "other", "_"] ["self", "hall"] (defScope s_Net_doors) := ⟨rfl, rfl, rfl, by decide +kernel, rfl, by decide +kernel, by decide +kernel⟩
abbrev s_Net__link : Stmt := (inClass (top 17) 10)
abbrev n_Net__link : List Str := ["self", "link"]
theorem sc_Net__link : FnScope ["self", "link"] ["self", "link"] (defScope s_Net__link) := ⟨rfl, rfl, rfl, by decide +kernel, rfl, by decide +kernel, by decide +kernel⟩
abbrev s_Net_beyond : Stmt := (inClass (top 17) 7)
abbrev n_Net_beyond : List Str := ["self", "link", "hall", "one", "other", "_"]
theorem sc_Net_beyond : FnScope ["self", "link", "hall", "one", "other", "_"] ["self", "link", "hall"] (defScope s_Net_beyond) := ⟨rfl, rfl, rfl, by decide +kernel, rfl, by decide +kernel, by decide +kernel⟩
abbrev s_Net_cost : Stmt := (inClass (top 17) 9)
abbrev n_Net_cost : List Str := ["self", "link"]
theorem sc_Net_cost : FnScope ["self", "link"] ["self", "link"] (defScope s_Net_cost) := ⟨rfl, rfl, rfl, by decide +kernel, rfl, by decide +kernel, by decide +kernel⟩
abbrev s_l_doors_right : Stmt := (top 24)
abbrev n_l_doors_right : List Str := ["_law_net", "_law_roads_here", "_law_place", "_law_k", "_law_wanted", "_law_found", "_law_there"]
theorem sc_l_doors_right : FnScope ["_law_net", "_law_roads_here", "_law_place", "_law_k", "_law_wanted", "_law_found", "_law_there"] ["_law_net", "_law_roads_here", "_law_place"] (defScope s_l_doors_right) := ⟨rfl, rfl, rfl, by decide +kernel, rfl, by decide +kernel, by decide +kernel⟩
abbrev s_law : Stmt := (top 25)
abbrev n_law : List Str := ["_law_script", "_law_state_here", "_law_turn", "_law_places_here", "_law_roads_here", "_law_first", "_law_second", "_law_net", "_law_time", "_law_told", "_law_rows", "_law_costs", "_law_row", "_law_k", "_law_place"]
theorem sc_law : FnScope ["_law_script", "_law_state_here", "_law_turn", "_law_places_here", "_law_roads_here", "_law_first", "_law_second", "_law_net", "_law_time", "_law_told", "_law_rows", "_law_costs", "_law_row", "_law_k", "_law_place"] ["_law_script"] (defScope s_law) := ⟨rfl, rfl, rfl, by decide +kernel, rfl, by decide +kernel, by decide +kernel⟩
def perm_0 {α : Type} : List α → List α := id
def perm_1_0 {α : Type} : List α → List α
  | [x, y] => [y, x]
  | l => l
theorem perm_rel_0 {vs : List V} {us : List Value} {zs : List V} {ws : List Value} (h : Vals vs us) (k : Vals zs ws) : Vals (vs ++ perm_0 zs) (us ++ perm_0 ws) := h.append k
theorem perm_rel_1_0 {vs : List V} {us : List Value} {zs : List V} {ws : List Value} (h : Vals vs us) (k : Vals zs ws) : Vals (vs ++ perm_1_0 zs) (us ++ perm_1_0 ws) := by
  refine h.append ?_
  match zs, ws, k with
  | [], _, .nil => exact .nil
  | [x], _, .cons r .nil => exact .cons r .nil
  | [x, y], _, .cons r (.cons q .nil) => exact .cons q (.cons r .nil)
  | x :: y :: z :: t, _, .cons r (.cons q (.cons p l)) => exact .cons r (.cons q (.cons p l))
structure Tx (K : PySem.W.Frag) (mg : Str → Option Value) where
  c_Net : Addr
  g_Net : mg "Net" = some (.ref c_Net)
  cl_Net : Cls K c_Net
  a_l_state : Addr
  d_l_state : FuncData
  F_l_state : Fun K "_law_state" "_law_state" s_l_state a_l_state d_l_state
  b_l_state : Binds K d_l_state ["_law_script"] []
  g_l_state : mg "_law_state" = some (.ref a_l_state)
  a_l_draw : Addr
  d_l_draw : FuncData
  F_l_draw : Fun K "_law_draw" "_law_draw" s_l_draw a_l_draw d_l_draw
  b_l_draw : Binds K d_l_draw ["_law_state_here", "_law_many"] []
  g_l_draw : mg "_law_draw" = some (.ref a_l_draw)
  a_l_places : Addr
  d_l_places : FuncData
  F_l_places : Fun K "_law_places" "_law_places" s_l_places a_l_places d_l_places
  b_l_places : Binds K d_l_places ["_law_state_here"] []
  g_l_places : mg "_law_places" = some (.ref a_l_places)
  a_l_roads : Addr
  d_l_roads : FuncData
  F_l_roads : Fun K "_law_roads" "_law_roads" s_l_roads a_l_roads d_l_roads
  b_l_roads : Binds K d_l_roads ["_law_state_here", "_law_places_here"] []
  g_l_roads : mg "_law_roads" = some (.ref a_l_roads)
  a_l_beyond : Addr
  d_l_beyond : FuncData
  F_l_beyond : Fun K "_law_beyond" "_law_beyond" s_l_beyond a_l_beyond d_l_beyond
  b_l_beyond : Binds K d_l_beyond ["_law_row", "_law_place"] []
  g_l_beyond : mg "_law_beyond" = some (.ref a_l_beyond)
  a_is_number : Addr
  d_is_number : FuncData
  F_is_number : Fun K "is_number" "is_number" s_is_number a_is_number d_is_number
  b_is_number : Binds K d_is_number ["thing"] []
  g_is_number : mg "is_number" = some (.ref a_is_number)
  a__are_halls : Addr
  d__are_halls : FuncData
  F__are_halls : Fun K "_are_halls" "_are_halls" s__are_halls a__are_halls d__are_halls
  b__are_halls : Binds K d__are_halls ["things"] []
  g__are_halls : mg "_are_halls" = some (.ref a__are_halls)
  a__is_link : Addr
  d__is_link : FuncData
  F__is_link : Fun K "_is_link" "_is_link" s__is_link a__is_link d__is_link
  b__is_link : Binds K d__is_link ["thing", "halls"] []
  g__is_link : mg "_is_link" = some (.ref a__is_link)
  a__are_links : Addr
  d__are_links : FuncData
  F__are_links : Fun K "_are_links" "_are_links" s__are_links a__are_links d__are_links
  b__are_links : Binds K d__are_links ["things", "halls"] []
  g__are_links : mg "_are_links" = some (.ref a__are_links)
  a_Net___init__ : Addr
  d_Net___init__ : FuncData
  F_Net___init__ : Fun K "__init__" "Net.__init__" s_Net___init__ a_Net___init__ d_Net___init__
  b_Net___init__ : Binds K d_Net___init__ ["self", "halls", "links"] []
  m_Net : Mk K c_Net a_Net___init__
  kb_Net___init___links_halls : KBn K d_Net___init__ ["self", "halls", "links"] 1 ["links", "halls"] (fun us ws => us ++ perm_1_0 ws) (fun us ws => us ++ perm_1_0 ws)
  a_Net_halls : Addr
  d_Net_halls : FuncData
  F_Net_halls : Fun K "halls" "Net.halls" s_Net_halls a_Net_halls d_Net_halls
  b_Net_halls : Binds K d_Net_halls ["self"] []
  me_Net_halls : Meth K c_Net "halls" a_Net_halls
  a_Net_links : Addr
  d_Net_links : FuncData
  F_Net_links : Fun K "links" "Net.links" s_Net_links a_Net_links d_Net_links
  b_Net_links : Binds K d_Net_links ["self"] []
  me_Net_links : Meth K c_Net "links" a_Net_links
  a_Net_most : Addr
  d_Net_most : FuncData
  F_Net_most : Fun K "most" "Net.most" s_Net_most a_Net_most d_Net_most
  b_Net_most : Binds K d_Net_most ["self"] []
  me_Net_most : Meth K c_Net "most" a_Net_most
  a_Net_doors : Addr
  d_Net_doors : FuncData
  F_Net_doors : Fun K "doors" "Net.doors" s_Net_doors a_Net_doors d_Net_doors
  b_Net_doors : Binds K d_Net_doors ["self", "hall"] []
  me_Net_doors : Meth K c_Net "doors" a_Net_doors
  kb_Net_doors_hall : KBn K d_Net_doors ["self", "hall"] 1 ["hall"] (fun us ws => us ++ perm_0 ws) (fun us ws => us ++ perm_0 ws)
  a_Net__link : Addr
  d_Net__link : FuncData
  F_Net__link : Fun K "_link" "Net._link" s_Net__link a_Net__link d_Net__link
  b_Net__link : Binds K d_Net__link ["self", "link"] []
  me_Net__link : Meth K c_Net "_link" a_Net__link
  a_Net_beyond : Addr
  d_Net_beyond : FuncData
  F_Net_beyond : Fun K "beyond" "Net.beyond" s_Net_beyond a_Net_beyond d_Net_beyond
  b_Net_beyond : Binds K d_Net_beyond ["self", "link", "hall"] []
  me_Net_beyond : Meth K c_Net "beyond" a_Net_beyond
  kb_Net_beyond_hall_link : KBn K d_Net_beyond ["self", "link", "hall"] 1 ["hall", "link"] (fun us ws => us ++ perm_1_0 ws) (fun us ws => us ++ perm_1_0 ws)
  a_Net_cost : Addr
  d_Net_cost : FuncData
  F_Net_cost : Fun K "cost" "Net.cost" s_Net_cost a_Net_cost d_Net_cost
  b_Net_cost : Binds K d_Net_cost ["self", "link"] []
  me_Net_cost : Meth K c_Net "cost" a_Net_cost
  kb_Net_cost_link : KBn K d_Net_cost ["self", "link"] 1 ["link"] (fun us ws => us ++ perm_0 ws) (fun us ws => us ++ perm_0 ws)
  a_l_doors_right : Addr
  d_l_doors_right : FuncData
  F_l_doors_right : Fun K "_law_doors_right" "_law_doors_right" s_l_doors_right a_l_doors_right d_l_doors_right
  b_l_doors_right : Binds K d_l_doors_right ["_law_net", "_law_roads_here", "_law_place"] []
  g_l_doors_right : mg "_law_doors_right" = some (.ref a_l_doors_right)
  a_law : Addr
  d_law : FuncData
  F_law : Fun K "law" "law" s_law a_law d_law
  b_law : Binds K d_law ["_law_script"] []
  g_law : mg "law" = some (.ref a_law)
  n_Net__handed : NoAttr K c_Net "_handed"
  n_Net__rising : NoAttr K c_Net "_rising"
  n_Net__links : NoAttr K c_Net "_links"
  z_abs : mg "abs" = none
  z_len : mg "len" = none
  z_range : mg "range" = none
  z_list : mg "list" = none
  z_repr : mg "repr" = none
  z_sorted : mg "sorted" = none
  z_sum : mg "sum" = none
  z_all : mg "all" = none
  z_isinstance : mg "isinstance" = none
  z_set : mg "set" = none
  z_tuple : mg "tuple" = none
  z_int : mg "int" = none
  z_bool : mg "bool" = none
  z_enumerate : mg "enumerate" = none
  t_MOST_HALLS : Tok
  v_MOST_HALLS : mg "MOST_HALLS" = some (.int (8) t_MOST_HALLS)
  t_MOST_LINKS : Tok
  v_MOST_LINKS : mg "MOST_LINKS" = some (.int (12) t_MOST_LINKS)
  t_LAST_HALL : Tok
  v_LAST_HALL : mg "LAST_HALL" = some (.int (999) t_LAST_HALL)
  t_MOST_COST : Tok
  v_MOST_COST : mg "MOST_COST" = some (.int (30) t_MOST_COST)
end K01

set_option maxHeartbeats 2000000
namespace K01
open PySem PySem.Spec PyProof.Rows L2 Evl MyG
/-! ### the drawing state: a list [cells, place, last] at s, the cells at c -/
structure Sta (s c : Addr) (H : Hp) : Prop where
  ne : s ≠ c
  ex : ∃ (cells : List Int) (i j : Int), H s = some (.lst [.ref c, .int i, .int j]) ∧ H c = some (.lst (cells.map V.int)) ∧ cells ≠ [] ∧ (∀ x ∈ cells, 0 ≤ x) ∧ 0 ≤ i ∧ 0 ≤ j ∧ j < 2147483647
def Off (s c : Addr) (H H' : Hp) : Prop := ∀ a, a ≠ s → a ≠ c → H' a = H a
def sp_state (K : PySem.W.Frag) : Sp := fun vs H Q _ => ∃ (a : Addr) (ns : List Int), vs = [.ref a] ∧ SqL K H a (ns.map V.int) ∧ ns.length ≤ 63 ∧ ∀ s c H', Ex H H' → H s = none → H c = none → Sta s c H' → Q (.ref s) H'
def sp_draw : Sp := fun vs H Q _ => ∃ (s c : Addr) (m : Int), vs = [.ref s, .int m] ∧ Sta s c H ∧ 0 < m ∧ m < 1073741824 ∧ ∀ r H', 0 ≤ r → r < m → Sta s c H' → Off s c H H' → Q (.int r) H'
theorem fmod_bd {a m : Int} (h : 0 < m) : 0 ≤ a.fmod m ∧ a.fmod m < m := ⟨Int.fmod_nonneg_of_pos a h, Int.fmod_lt_of_pos a h⟩
theorem ints_at {ns : List Int} {k : Int} (h0 : 0 ≤ k) (h1 : k < (ns.length : Int)) : ∃ x, ns[k.toNat]? = some x ∧ atI (ns.map V.int) k = some (.int x) ∧ x ∈ ns := by
  have hk : k.toNat < ns.length := by omega
  refine ⟨ns[k.toNat], List.getElem?_eq_getElem hk, ?_, List.getElem_mem hk⟩
  refine at_of (j := k.toNat) (by omega) ?_
  rw [List.getElem?_map, List.getElem?_eq_getElem hk]
  rfl
theorem map_set_int (ns : List Int) (j : Nat) (y : Int) : (ns.map V.int).set j (.int y) = (ns.set j y).map V.int := by
  rw [List.map_set]
theorem mem_set {ns : List Int} {j : Nat} {y : Int} (h : ∀ x ∈ ns, 0 ≤ x) (hy : 0 ≤ y) : ∀ x ∈ ns.set j y, 0 ≤ x := fun x hx => by
  rcases List.mem_or_eq_of_mem_set hx with e | e
  · exact h x e
  · rw [e]; exact hy
section
variable {P : Program} {w : World} {K : PySem.W.Frag} {mg : Str → Option Value} {base : Heap}
theorem ok_draw (T : Tx K mg) : FnOk P w K mg base CX0 1 T.a_l_draw T.d_l_draw ["_law_state_here", "_law_many"] sp_draw := by
  refine T.F_l_draw.ok sc_l_draw (fun vs H Q E h => ?_) (fun cdv A outer s H vs Q E hr h => ?_)
  · obtain ⟨_, _, _, rfl, _⟩ := h
    rfl
  · obtain ⟨s, c, m, rfl, hst, hm0, hm1, q⟩ := h
    refine ⟨_, (pss_cons (ps_set (i := 2) sc_l_draw.nd rfl (Or.inl rfl) (pe_op op_modN (pe_ix (ix_listK (K := K) rfl) (pv 0) pe_int (fun _ _ => rfl)) (pe_callB (lenK (K := K) rfl) (by rfl) T.z_len (by decide +kernel) (pa_cons (pe_ix (ix_listK (K := K) rfl) (pv 0) pe_int (fun _ _ => rfl)) pa_nil))))
  (pss_cons (ps_set (i := 3) sc_l_draw.nd rfl (Or.inl rfl) (pe_ix (ix_listK (K := K) rfl) (pe_ix (ix_listK (K := K) rfl) (pv 0) pe_int (fun _ _ => rfl)) (pv 2) (fun _ _ => rfl)))
  (pss_cons (ps_if (pt_cmpR op_ge (pv 3) (pe_op op_pow pe_int pe_int) (nomark _)) (pss_cons (ps_asg (pe_op op_fdivN (pv 3) (pv 1)) (pg_sub (pe_ix (ix_listK (K := K) rfl) (pv 0) pe_int (fun _ _ => rfl)) (pv 2) set_list))
  (pss_one (ps_ret (pe_op op_modN (pv 3) (pv 1))))) pss_nil)
  (pss_cons (ps_asg (pe_op op_add (pe_ix (ix_listK (K := K) rfl) (pv 0) pe_int (fun _ _ => rfl)) pe_int) (pg_sub (pv 0) pe_int set_list))
  (pss_cons (ps_asg (pe_op op_modN (pe_op op_add (pe_op op_add (pe_op op_mul (pe_ix (ix_listK (K := K) rfl) (pv 0) pe_int (fun _ _ => rfl)) pe_int) (pv 3)) pe_int) pe_int) (pg_sub (pv 0) pe_int set_list))
  (pss_one (ps_ret (pe_op op_modN (pe_op op_fdivN (pe_op op_modN (pe_op op_mul (pe_ix (ix_listK (K := K) rfl) (pv 0) pe_int (fun _ _ => rfl)) (pe_ix (ix_listK (K := K) rfl) (pv 0) pe_int (fun _ _ => rfl))) pe_int) pe_int) (pv 1))))))))), ?_⟩
    obtain ⟨nsc, cells, i, j, hs, hc, hne, hpos, hi, hj0, hj1⟩ := hst
    have hlen : 0 < (cells.length : Int) := by
      have := List.length_pos_iff.mpr hne
      omega
    -- at = state[1] % len(state[0])
    refine ⟨_, rfl, s, _, 1, _, rfl, rfl, SqL.of hs, atI_nat (j := 1) rfl, _, rfl, s, _, 0, _, rfl, rfl, SqL.of hs, atI_nat (j := 0) rfl, c, _, rfl, .inl (SqL.of hc), _, _, rfl, rfl, ?_, ?_⟩
    · rw [List.length_map]; omega
    rw [List.length_map]
    have hat := fmod_bd (a := i) hlen
    generalize hdef : i.fmod (cells.length : Int) = at_ at hat
    obtain ⟨x, hx, hxa, hxm⟩ := ints_at hat.1 hat.2
    have hx0 := hpos x hxm
    -- cell = state[0][at]
    refine ⟨_, rfl, s, _, 0, _, rfl, rfl, SqL.of hs, atI_nat (j := 0) rfl, _, rfl, c, _, at_, _, rfl, congrArg V.int hdef, SqL.of hc, hxa, ?_⟩
    -- if cell >= 10 ** 18
    refine ⟨_, rfl, 10, 18, rfl, rfl, ⟨by decide, by decide, by decide⟩, x, _, rfl, rfl, _, rfl, ite2 (fun _ => ?_) (fun _ => ?_)⟩
    · -- state[0][at] = cell // many
      refine ⟨_, rfl, _, rfl, x, m, rfl, rfl, ⟨by omega, by omega⟩, _, rfl, s, _, 0, _, rfl, rfl, SqL.of hs, atI_nat (j := 0) rfl, _, rfl, c, _, at_, at_.toNat, rfl, congrArg V.int hdef, hc, ?_, ?_⟩
      · have e : at_ = (at_.toNat : Int) := by omega
        rw [e]
        exact Evl.ixN_nat (by rw [List.length_map]; omega)
      refine ⟨_, rfl, _, rfl, x, m, rfl, rfl, by omega, ?_⟩
      have hb := fmod_bd (a := x) hm0
      refine q _ _ hb.1 hb.2 ⟨nsc, cells.set at_.toNat (x.fdiv m), i, j, ?_, ?_, ?_, ?_, hi, hj0, hj1⟩ (fun a ha hac => upd_ne hac)
      · rw [upd_ne nsc]; exact hs
      · rw [upd_same, map_set_int]
      · exact fun z => hne (by simpa using z)
      · refine mem_set hpos ?_
        rw [Int.fdiv_eq_ediv_of_nonneg _ (by omega)]
        exact Int.ediv_nonneg hx0 (by omega)
    · -- state[1] = state[1] + 1
      refine ⟨_, rfl, s, _, 1, _, rfl, rfl, SqL.of hs, atI_nat (j := 1) rfl, _, _, rfl, rfl, _, rfl, s, _, 1, 1, rfl, rfl, hs, Evl.ixN_nat (j := 1) (by show 1 < 3; decide), ?_⟩
      have hs1 : (upd H s (.lst ([V.ref c, .int i, .int j].set 1 (.int (i + 1))))) s = some (.lst [.ref c, .int (i + 1), .int j]) := upd_same
      -- state[2] = ..
      refine ⟨_, rfl, s, _, 2, _, rfl, rfl, SqL.of hs1, atI_nat (j := 2) rfl, _, _, rfl, rfl, .inl ⟨by omega, by omega⟩, _, rfl, _, _, rfl, rfl, _, _, rfl, rfl, _, _, rfl, rfl, (by show (2147483647 : Int) ≠ 0; decide), _, rfl, s, _, 2, 2, rfl, rfl, hs1, Evl.ixN_nat (j := 2) (by show 2 < 3; decide), ?_⟩
      have hb := fmod_bd (a := j * 48271 + x + 12345) (m := 2147483647) (by decide)
      generalize hdj : (j * 48271 + x + 12345).fmod 2147483647 = j' at hb
      have hs2 : (upd (upd H s (.lst ([V.ref c, .int i, .int j].set 1 (.int (i + 1))))) s (.lst ([V.ref c, .int (i + 1), .int j].set 2 (.int ((j * 48271 + x + 12345).fmod 2147483647))))) s = some (.lst [.ref c, .int (i + 1), .int j']) := by
        rw [upd_same, hdj]
        rfl
      -- return ..
      refine ⟨_, rfl, s, _, 2, _, rfl, rfl, SqL.of hs2, atI_nat (j := 2) rfl, _, rfl, s, _, 2, _, rfl, rfl, SqL.of hs2, atI_nat (j := 2) rfl, _, _, rfl, rfl, .inl ⟨by omega, by omega⟩, _, _, rfl, rfl, (by show (2147483629 : Int) ≠ 0; decide), _, _, rfl, rfl, ⟨by show (16 : Int) ≠ 0; decide, by show (16 : Int).natAbs < 1073741824; decide⟩, _, rfl, _, _, rfl, rfl, by omega, ?_⟩
      have hb2 := fmod_bd (a := ((j' * j').fmod 2147483629).fdiv 16) hm0
      refine q _ _ hb2.1 hb2.2 ⟨nsc, cells, i + 1, j', hs2, ?_, hne, hpos, by omega, hb.1, hb.2⟩ (fun a ha hac => ?_)
      · rw [upd_ne nsc.symm, upd_ne nsc.symm]; exact hc
      · rw [upd_ne ha, upd_ne ha]
end
end K01

set_option maxHeartbeats 2000000
namespace K01
open PySem PySem.Spec PyProof.Rows L2 Evl MyG
/-! ### what is known (B) beside the state -/
structure Wd (s c : Addr) (B H : Hp) : Prop where
  ex : Ex B H
  ns : B s = none
  nc : B c = none
  st : Sta s c H
theorem Sta.ext {s c : Addr} {H H' : Hp} (h : Sta s c H) (e : Ex H H') : Sta s c H' :=
  ⟨h.ne, let ⟨cells, i, j, h1, h2, r⟩ := h.ex; ⟨cells, i, j, e _ _ h1, e _ _ h2, r⟩⟩
theorem Sta.s_some {s c : Addr} {H : Hp} (h : Sta s c H) : ∃ o, H s = some o := let ⟨_, _, _, h1, _⟩ := h.ex; ⟨_, h1⟩
theorem Sta.c_some {s c : Addr} {H : Hp} (h : Sta s c H) : ∃ o, H c = some o := let ⟨_, _, _, _, h2, _⟩ := h.ex; ⟨_, h2⟩
theorem Sta.ne_s {s c p : Addr} {H : Hp} (h : Sta s c H) (hp : H p = none) : p ≠ s := fun e => by
  obtain ⟨o, z⟩ := h.s_some
  rw [e, z] at hp
  cases hp
theorem Sta.ne_c {s c p : Addr} {H : Hp} (h : Sta s c H) (hp : H p = none) : p ≠ c := fun e => by
  obtain ⟨o, z⟩ := h.c_some
  rw [e, z] at hp
  cases hp
theorem Sta.upd {s c p : Addr} {H : Hp} {o : HO} (h : Sta s c H) (hs : p ≠ s) (hc : p ≠ c) : Sta s c (upd H p o) :=
  ⟨h.ne, let ⟨cells, i, j, h1, h2, r⟩ := h.ex; ⟨cells, i, j, by rw [upd_ne hs.symm]; exact h1, by rw [upd_ne hc.symm]; exact h2, r⟩⟩
section
variable {s c p : Addr} {B H H' : Hp} {o : HO}
theorem Wd.off (h : Wd s c B H) (st : Sta s c H') (f : Off s c H H') : Wd s c B H' := ⟨fun a u e => by
  rw [f a (fun z => by rw [z, h.ns] at e; cases e) (fun z => by rw [z, h.nc] at e; cases e)]
  exact h.ex a u e, h.ns, h.nc, st⟩
theorem Wd.ext (h : Wd s c B H) (e : Ex H H') : Wd s c B H' := ⟨h.ex.trans e, h.ns, h.nc, h.st.ext e⟩
theorem Wd.mut (h : Wd s c B H) (hp : B p = none) (hs : p ≠ s) (hc : p ≠ c) : Wd s c B (upd H p o) := ⟨h.ex.mut hp, h.ns, h.nc, h.st.upd hs hc⟩
theorem Wd.know (h : Wd s c B H) (hp : H p = some o) (hs : p ≠ s) (hc : p ≠ c) : Wd s c (upd B p o) H := ⟨fun a u e => by
  by_cases z : a = p
  · rw [z, upd_same] at e
    rw [z, ← e]
    exact hp
  · rw [upd_ne z] at e
    exact h.ex a u e, by rw [upd_ne hs.symm]; exact h.ns, by rw [upd_ne hc.symm]; exact h.nc, h.st⟩
theorem Wd.none_of (h : Wd s c B H) (hp : H p = none) : B p = none := fresh_back h.ex hp
theorem ex_know (hp : B p = none) : Ex B (upd B p o) := Ex.new hp
end
/-! ### comprehensions that map -/
theorem given_all (ys : List V) : given ys.length (fun _ => true) (fun i => ys.getD i .non) = ys := by
  unfold given
  rw [List.filter_eq_self.mpr (fun _ _ => rfl)]
  refine List.ext_getElem (by simp) (fun i h1 h2 => ?_)
  rw [List.getElem_map, List.getElem_range, List.getD_eq_getElem?_getD, List.getElem?_eq_getElem h2]
  rfl
theorem et_yes {σ : L2.St} {H : Hp} : EvT tYes σ H true := fun H1 _ _ q => q H1 (Ex.refl H1)
theorem el_map {K : PySem.W.Frag} {σ : L2.St} {H : Hp} {te : TE} {a : Addr} {xs ys : List V} {tl : TE} {j : Nat} {vs : List Nat} (h : Ev tl σ H (.ref a)) (hx : SqL K H a xs) (hz : xs.length ≤ 40000) (hl : ys.length = xs.length)
    (hw : ∀ x, wipe ((wipe σ vs).set j (some x)) vs = wipe σ vs) (he : ∀ (i : Nat) (x y : V) H1, Ex H H1 → xs[i]? = some x → ys[i]? = some y → Ev te ((wipe σ vs).set j (some x)) H1 y) : EvL (tLc (iList K tl) (gName j) tYes te vs) σ H ys := by
  have k := el_lcL (K := K) (t := tYes) (te := te) (fun _ => true) (fun i => ys.getD i .non) h hx hz hw (fun i x H1 e hi => et_yes) (fun i x H1 e hi _ => by
    have h1 := (List.getElem?_eq_some_iff.mp hi).1
    have h2 : i < ys.length := by omega
    rw [show ys.getD i .non = ys[i] by rw [List.getD_eq_getElem?_getD, List.getElem?_eq_getElem h2]; rfl]
    exact he i x _ H1 e hi (List.getElem?_eq_getElem h2))
  rw [← hl, given_all] at k
  exact k
theorem go_L {te : TE} {σ : L2.St} {H : Hp} {xs : List V} {Q : VK} (h : EvL te σ H xs) (k : ∀ p H1, H p = none → Ex H H1 → H1 p = some (.lst xs) → Q (.ref p) H1) : te σ H Q := h H (Ex.refl H) Q k
theorem go_V {te : TE} {σ : L2.St} {H : Hp} {v : V} {Q : VK} (h : Ev te σ H v) (k : ∀ H1, Ex H H1 → Q v H1) : te σ H Q := h H (Ex.refl H) Q k
/-! ### the first state -/
section
variable {P : Program} {w : World} {K : PySem.W.Frag} {mg : Str → Option Value} {base : Heap}
theorem ok_state (T : Tx K mg) : FnOk P w K mg base CX0 1 T.a_l_state T.d_l_state ["_law_script"] (sp_state K) := by
  refine T.F_l_state.ok sc_l_state (fun vs H Q E h => ?_) (fun cdv A outer s H vs Q E hr h => ?_)
  · obtain ⟨_, _, rfl, _⟩ := h
    rfl
  · obtain ⟨a, ns, rfl, hS, hlen, q⟩ := h
    refine ⟨_, (pss_cons (ps_setLc (i := 1) (own := [("_law_cell", 2)]) (g := (gName 2)) (tt := tYes) rfl sc_l_state.nd rfl rfl (sw_true rfl rfl rfl (by decide +kernel)) (iListK (K := K) rfl (pv 0)) (blkOk_by (N := n_l_state) (sc := defScope s_l_state) (by decide +kernel)) (fun _ _ _ _ _ => (pg_name (i := 2) sc_l_state.nd rfl (Or.inl rfl))) (fun _ _ _ _ _ => pts_nil) (fun _ _ _ _ _ => (pe_callB call_abs (by rfl) T.z_abs (by decide +kernel) (pa_cons (pv 2) pa_nil))))
  (pss_cons (ps_if (pt_cmpR (op_eqK (K := K) rfl hr.units) (pv 1) (pe_lst pa_nil) (nomark _)) (pss_one (ps_set (i := 1) sc_l_state.nd rfl (Or.inl rfl) (pe_lst (pa_cons pe_int pa_nil)))) pss_nil)
  (pss_one (ps_ret (pe_lst (pa_cons (pv 1) (pa_cons pe_int (pa_cons pe_int pa_nil)))))))), ?_⟩
    -- the cells
    refine q_asgL (xs := (ns.map fun i => if i < 0 then -i else i).map V.int) (el_map (xs := ns.map V.int) (a := a) (ev_var rfl) hS (by rw [List.length_map]; omega) (by simp) (fun x => rfl) (fun i x y H1 e hx hy => ?_)) (fun c H1 hc e1 h1 => ?_)
    · rw [List.getElem?_map] at hx hy
      rw [List.getElem?_map] at hy
      cases hi : ns[i]? with
      | none =>
        rw [hi] at hx
        cases hx
      | some z =>
        rw [hi] at hx hy
        obtain rfl := Option.some.inj hx
        obtain rfl := Option.some.inj hy
        exact fun H2 e2 Q q => ⟨_, rfl, z, rfl, q _ (Ex.refl _)⟩
    generalize hg : ns.map (fun i => if i < 0 then -i else i) = cells at h1
    have pos : ∀ x ∈ cells, 0 ≤ x := fun x hx => by
      rw [← hg] at hx
      obtain ⟨y, _, rfl⟩ := List.mem_map.mp hx
      split <;> omega
    -- if cells == []
    refine ⟨_, rfl, by show 0 ≤ sizeLine; exact Nat.zero_le _, fun p hp => ?_⟩
    have cl : PyData.canLay0 (.list (cells.map PyData.int)) = true := by
      simp only [PyData.canLay0]
      clear hg pos h1
      induction cells with
      | nil => rfl
      | cons x r ih => simp only [List.map_cons, PyData.canLayAll0, PyData.canLay0, ih, Bool.and_self]
    have dpt : PyData.depth (.list (cells.map PyData.int)) ≤ 64 := by
      simp only [PyData.depth]
      have : PyData.depthAll (cells.map PyData.int) = 0 := by
        clear hg pos h1 cl
        induction cells with
        | nil => rfl
        | cons x r ih => simp only [List.map_cons, PyData.depthAll, PyData.depth, ih]; rfl
      omega
    refine ⟨.list (cells.map PyData.int), .list [], .lst (SqL.of (Ex.new hp _ _ h1)) (dp_ints _), .lst (SqL.of upd_same) .nil, ?_, rfl, _, rfl, ite2 (fun he => ?_) (fun hne => ?_)⟩
    · unfold SeqAt.shaped
      rw [cl, decide_eq_true dpt]
      rfl
    · -- cells = [1]
      refine ⟨by show 1 ≤ sizeLine; decide, fun c2 hc2 => ?_⟩
      refine ⟨_, rfl, by show 3 ≤ sizeLine; decide, fun s hs => ?_⟩
      have n2 : c2 ≠ s := fun z => by rw [← z, upd_same] at hs; cases hs
      have e2 : Ex H1 (upd (upd (upd H1 p (.lst [])) c2 (.lst [.int 1])) s (.lst [.ref c2, .int 0, .int 1])) := ((Ex.new hp).trans (Ex.new hc2)).trans (Ex.new hs)
      refine q s c2 _ (e1.trans e2) (fresh_back (e1.trans ((Ex.new hp).trans (Ex.new hc2))) hs) (fresh_back (e1.trans (Ex.new hp)) hc2) ⟨n2.symm, [1], 0, 1, upd_same, ?_, by decide, by decide, by decide, by decide, by decide⟩
      rw [upd_ne n2, upd_same]
      rfl
    · refine ⟨_, rfl, by show 3 ≤ sizeLine; decide, fun s hs => ?_⟩
      have h2 : (upd H1 p (.lst [])) c = some (.lst (cells.map V.int)) := Ex.new hp _ _ h1
      have n2 : c ≠ s := ne_of_none h2 hs
      refine q s c _ ((e1.trans (Ex.new hp)).trans (Ex.new hs)) (fresh_back (e1.trans (Ex.new hp)) hs) hc ⟨n2.symm, cells, 0, 1, upd_same, ?_, ?_, pos, by decide, by decide, by decide⟩
      · rw [upd_ne n2]; exact h2
      · intro z
        subst z
        exact hne rfl
end
end K01

set_option maxHeartbeats 2000000
namespace K01
open PySem PySem.Spec PyProof.Rows L2 Evl MyG
/-! ### places drawn -/
structure Places (ps : List Int) : Prop where
  nd : ps.Nodup
  l0 : 1 ≤ ps.length
  l1 : ps.length ≤ 8
  bd : ∀ x ∈ ps, 0 ≤ x ∧ x ≤ 999
def sp_places : Sp := fun vs H Q _ => ∃ (s c : Addr) (B : Hp), vs = [.ref s] ∧ Wd s c B H ∧ ∀ p ps H', Places ps → H p = none → Wd s c (upd B p (.lst (ps.map V.int))) H' → Q (.ref p) H'
theorem inV_ints (z : Int) : ∀ ns : List Int, inV (.int z) (ns.map V.int) = decide (z ∈ ns)
  | [] => by simp [inV]
  | n :: ns => by
    have ih := inV_ints z ns
    unfold inV at ih ⊢
    rw [List.map_cons, List.any_cons, ih]
    have e : eqV (.int n) (.int z) = decide (n = z) := by first | rfl | simp [eqV]
    rw [e]
    by_cases h : n = z
    · subst h; simp
    · have h' : ¬ z = n := fun q => h q.symm
      simp [h, h']
theorem flat_ints (ns : List Int) : (ns.map V.int).all flatV = true := by
  rw [List.all_eq_true]
  intro x hx
  obtain ⟨n, _, rfl⟩ := List.mem_map.mp hx
  rfl
theorem len8 {n : Nat} (h : n ≤ 1000) : n < sizeLine := small1000 h
theorem nodup_snoc {xs : List Int} {z : Int} (h : xs.Nodup) (hz : ¬ z ∈ xs) : (xs ++ [z]).Nodup := by
  rw [List.nodup_append]
  refine ⟨h, by simp, fun a ha b hb => ?_⟩
  obtain rfl := List.mem_singleton.mp hb
  exact fun e => hz (e ▸ ha)
section
variable {P : Program} {w : World} {K : PySem.W.Frag} {mg : Str → Option Value} {base : Heap}
theorem ok_places (T : Tx K mg) : FnOk P w K mg base CX0 2 T.a_l_places T.d_l_places ["_law_state_here"] sp_places := by
  have G_l_draw := ok_draw (P := P) (w := w) (base := base) T
  refine T.F_l_places.ok sc_l_places (fun vs H Q E h => ?_) (fun cdv A outer s H vs Q E hr h => ?_)
  · obtain ⟨_, _, _, rfl, _⟩ := h
    rfl
  · obtain ⟨s, c, B, rfl, hW, q⟩ := h
    refine ⟨_, (pss_cons (ps_set (i := 1) sc_l_places.nd rfl (Or.inl rfl) (pe_lst pa_nil))
  (pss_cons (ps_for PassesOwn.never rfl (pi_range1 rfl T.z_range (pa_cons (pe_op op_add pe_int (pe_call G_l_draw (hr.mono (by decide)) (by rfl) T.g_l_draw T.F_l_draw.kp T.b_l_draw .nil pass0 (pa_cons (pv 0) (pa_cons pe_int pa_nil)))) pa_nil)) (pg_name (i := 2) sc_l_places.nd rfl (Or.inl rfl))
   (pss_cons (ps_set (i := 3) sc_l_places.nd rfl (Or.inl rfl) (pe_call G_l_draw (hr.mono (by decide)) (by rfl) T.g_l_draw T.F_l_draw.kp T.b_l_draw .nil pass0 (pa_cons (pv 0) (pa_cons pe_int pa_nil))))
  (pss_cons (ps_set (i := 4) sc_l_places.nd rfl (Or.inl rfl) (pe_ix (ix_listK (K := K) rfl) (pe_lst (pa_cons (pe_call G_l_draw (hr.mono (by decide)) (by rfl) T.g_l_draw T.F_l_draw.kp T.b_l_draw .nil pass0 (pa_cons (pv 0) (pa_cons pe_int pa_nil))) (pa_cons (pe_call G_l_draw (hr.mono (by decide)) (by rfl) T.g_l_draw T.F_l_draw.kp T.b_l_draw .nil pass0 (pa_cons (pv 0) (pa_cons pe_int pa_nil))) (pa_cons (pe_op op_sub pe_int (pe_call G_l_draw (hr.mono (by decide)) (by rfl) T.g_l_draw T.F_l_draw.kp T.b_l_draw .nil pass0 (pa_cons (pv 0) (pa_cons pe_int pa_nil)))) (pa_cons (pe_call G_l_draw (hr.mono (by decide)) (by rfl) T.g_l_draw T.F_l_draw.kp T.b_l_draw .nil pass0 (pa_cons (pv 0) (pa_cons pe_int pa_nil))) pa_nil))))) (pv 3) (fun _ _ => rfl)))
  (pss_one (ps_if (pt_cmpR (op_niK (K := K) rfl) (pv 4) (pv 1) (by rfl)) (pss_one (ps_expr (pe_bm PySem.F.plainAttrs_list PySem.F.slot_list_append PySem.F.type_list_append mt_append (pv 1) (pa_cons (pv 4) pa_nil)))) pss_nil)))))
  (pss_one (ps_ret (pv 1))))), ?_⟩
    refine ⟨Nat.zero_le _, fun f hf => ?_⟩
    have hfs := hW.st.ne_s hf
    have hfc := hW.st.ne_c hf
    have hfB := hW.none_of hf
    have hW1 := hW.ext (Ex.new (o := .lst []) hf)
    refine ⟨_, rfl, s, c, 8, rfl, hW1.st, by decide, by decide, fun r H1 r0 r1 st1 off1 => ?_⟩
    have hW2 := hW1.off st1 off1
    refine ⟨1, r, rfl, rfl, 1 + r, rfl, by omega, by omega, for_range (lo := 0) (n := (1 + r).toNat) (fun i σ H' => ∃ (xs : List Int) (y2 y3 y4 : Option V), σ = [some (.ref s), some (.ref f), y2, y3, y4] ∧ Wd s c B H' ∧
      H' f = some (.lst (xs.map V.int)) ∧ xs.Nodup ∧ xs.length ≤ i ∧ (0 < i → 1 ≤ xs.length) ∧ ∀ x ∈ xs, 0 ≤ x ∧ x ≤ 999) ⟨[], _, _, _, rfl, hW2, (off1 f hfs hfc).trans upd_same, List.nodup_nil, Nat.le_refl _, fun z => absurd z (Nat.lt_irrefl _), fun x hx => nomatch hx⟩ ?_ ?_⟩
    · rintro i σ H2 hi ⟨xs, y2, y3, y4, rfl, W2, f2, nd, l0, l1, bd⟩
      -- way
      refine ⟨_, rfl, s, c, 4, rfl, W2.st, by decide, by decide, fun way H3 w0 w1 st3 off3 => ?_⟩
      have W3 := W2.off st3 off3
      have f3 := (off3 f hfs hfc).trans f2
      -- one
      refine ⟨_, rfl, s, c, 12, rfl, W3.st, by decide, by decide, fun a1 H4 a10 a11 st4 off4 => ?_⟩
      have W4 := W3.off st4 off4
      have f4 := (off4 f hfs hfc).trans f3
      refine ⟨_, rfl, s, c, 12, rfl, W4.st, by decide, by decide, fun a2 H5 a20 a21 st5 off5 => ?_⟩
      have W5 := W4.off st5 off5
      have f5 := (off5 f hfs hfc).trans f4
      refine ⟨_, rfl, s, c, 3, rfl, W5.st, by decide, by decide, fun a3 H6 a30 a31 st6 off6 => ?_⟩
      have W6 := W5.off st6 off6
      have f6 := (off6 f hfs hfc).trans f5
      refine ⟨999, a3, rfl, rfl, _, rfl, s, c, 1000, rfl, W6.st, by decide, by decide, fun a4 H7 a40 a41 st7 off7 => ?_⟩
      have W7 := W6.off st7 off7
      have f7 := (off7 f hfs hfc).trans f6
      refine ⟨by show 4 ≤ sizeLine; decide, fun p hp => ?_⟩
      have f8 := Ex.new (o := .lst [V.int a1, .int a2, .int (999 - a3), .int a4]) hp _ _ f7
      have W8 := W7.ext (Ex.new (o := .lst [V.int a1, .int a2, .int (999 - a3), .int a4]) hp)
      obtain ⟨z, hz, z0, z1⟩ : ∃ z, atI [V.int a1, .int a2, .int (999 - a3), .int a4] way = some (.int z) ∧ 0 ≤ z ∧ z ≤ 999 := by
        have : way = 0 ∨ way = 1 ∨ way = 2 ∨ way = 3 := by omega
        rcases this with rfl | rfl | rfl | rfl
        · exact ⟨a1, rfl, by omega, by omega⟩
        · exact ⟨a2, rfl, by omega, by omega⟩
        · exact ⟨999 - a3, rfl, by omega, by omega⟩
        · exact ⟨a4, rfl, by omega, by omega⟩
      refine ⟨_, rfl, p, _, way, _, rfl, rfl, SqL.of upd_same, hz, ?_⟩
      -- if one not in found
      refine ⟨_, rfl, _, rfl, f, _, rfl, .inl (SqL.of f8), rfl, flat_ints _, _, rfl, ?_⟩
      rw [inV_ints]
      by_cases hin : z ∈ xs
      · rw [decide_eq_true hin]
        refine iteF ⟨xs, _, _, _, rfl, W8, f8, nd, by omega, fun _ => ?_, bd⟩
        exact List.length_pos_of_mem hin
      · rw [decide_eq_false hin]
        refine iteT ?_
        refine ⟨_, rfl, .inl ⟨rfl, _, SqL.of f8⟩, _, rfl, f, _, _, rfl, rfl, f8, len8 (by rw [List.length_map]; omega), ?_⟩
        refine ⟨xs ++ [z], _, _, _, rfl, W8.mut hfB hfs hfc, ?_, nodup_snoc nd hin, by rw [List.length_append, List.length_singleton]; omega, fun _ => by rw [List.length_append, List.length_singleton]; omega, fun x hx => ?_⟩
        · rw [upd_same, List.map_append]
          rfl
        · rcases List.mem_append.mp hx with hx | hx
          · exact bd x hx
          · obtain rfl := List.mem_singleton.mp hx
            exact ⟨z0, z1⟩
    · rintro σ H2 ⟨xs, y2, y3, y4, rfl, W2, f2, nd, l0, l1, bd⟩
      refine ⟨_, rfl, ?_⟩
      exact q f xs H2 ⟨nd, l1 (by omega), by omega, bd⟩ hf (W2.know f2 hfs hfc)
end
end K01

set_option maxHeartbeats 2000000
namespace K01
open PySem PySem.Spec PyProof.Rows L2 Evl MyG
/-! ### roads drawn -/
abbrev Row := Int × Int × Int
def rowV (r : Row) : List V := [.int r.1, .int r.2.1, .int r.2.2]
def RowsAt (B : Hp) : List V → List Row → Prop := Paired fun (v : V) (r : Row) => ∃ a, v = .ref a ∧ B a = some (.tup (rowV r))
structure RoadOk (ps : List Int) (r : Row) : Prop where
  m1 : r.1 ∈ ps
  m2 : r.2.1 ∈ ps
  ne : r.1 ≠ r.2.1
  c0 : 1 ≤ r.2.2
  c1 : r.2.2 ≤ 30
structure Roads (ps : List Int) (rs : List Row) : Prop where
  len : rs.length ≤ 12
  ok : ∀ r ∈ rs, RoadOk ps r
theorem RowsAt.mono {B B' : Hp} (e : Ex B B') {vs : List V} {rs : List Row} (h : RowsAt B vs rs) : RowsAt B' vs rs := Paired.mapP h fun _ _ ⟨a, h1, h2⟩ => ⟨a, h1, e _ _ h2⟩
theorem RowsAt.len {B : Hp} {vs : List V} {rs : List Row} (h : RowsAt B vs rs) : vs.length = rs.length := Paired.length h
theorem RowsAt.snoc {B : Hp} {a : Addr} {r : Row} (ha : B a = some (.tup (rowV r))) : ∀ {vs : List V} {rs : List Row}, RowsAt B vs rs → RowsAt B (vs ++ [.ref a]) (rs ++ [r])
  | _, _, .nil => .cons ⟨a, rfl, ha⟩ .nil
  | _, _, .cons h t => .cons h (RowsAt.snoc ha t)
def sp_roads : Sp := fun vs H Q _ => ∃ (s c a : Addr) (B : Hp) (ps : List Int), vs = [.ref s, .ref a] ∧ Wd s c B H ∧ B a = some (.lst (ps.map V.int)) ∧ Places ps ∧
  ∀ p ts rs B' H', Ex B B' → Roads ps rs → RowsAt B' ts rs → H p = none → B' p = some (.lst ts) → Wd s c B' H' → Q (.ref p) H'
theorem seq_nat {n : Nat} {k : Int} (h0 : 0 ≤ k) (h1 : k < (n : Int)) : seqIndex? k n = some k.toNat := by
  have e : k = (k.toNat : Int) := by omega
  rw [e]
  exact (ixN_seq (Evl.ixN_nat (show k.toNat < n by omega))).1
theorem erase_ints : ∀ (ns : List Int) (k : Nat), (ns.map V.int).eraseIdx k = (ns.eraseIdx k).map V.int
  | [], k => by simp
  | n :: ns, 0 => rfl
  | n :: ns, k + 1 => by
    show V.int n :: (ns.map V.int).eraseIdx k = V.int n :: (ns.eraseIdx k).map V.int
    rw [erase_ints ns k]
theorem erase_ne {ps : List Int} (nd : ps.Nodup) {k j : Nat} {x y : Int} (hx : ps[k]? = some x) (hy : (ps.eraseIdx k)[j]? = some y) : x ≠ y := by
  rw [List.getElem?_eraseIdx] at hy
  intro e
  subst e
  by_cases h : j < k
  · rw [if_pos h] at hy
    exact absurd (nd_ix nd hy hx) (by omega)
  · rw [if_neg h] at hy
    exact absurd (nd_ix nd hy hx) (by omega)
section
variable {P : Program} {w : World} {K : PySem.W.Frag} {mg : Str → Option Value} {base : Heap}
theorem ok_roads (T : Tx K mg) : FnOk P w K mg base CX0 2 T.a_l_roads T.d_l_roads ["_law_state_here", "_law_places_here"] sp_roads := by
  have G_l_draw := ok_draw (P := P) (w := w) (base := base) T
  refine T.F_l_roads.ok sc_l_roads (fun vs H Q E h => ?_) (fun cdv A outer s H vs Q E hr h => ?_)
  · obtain ⟨_, _, _, _, _, rfl, _⟩ := h
    rfl
  · obtain ⟨s, c, a, B, ps, rfl, hW, ha, hP, q⟩ := h
    refine ⟨_, (pss_cons (ps_set (i := 2) sc_l_roads.nd rfl (Or.inl rfl) (pe_lst pa_nil))
  (pss_cons (ps_if (pt_cmpR op_lt (pe_callB (lenK (K := K) rfl) (by rfl) T.z_len (by decide +kernel) (pa_cons (pv 1) pa_nil)) pe_int (nomark _)) (pss_one (ps_ret (pv 2))) pss_nil)
  (pss_cons (ps_for PassesOwn.never rfl (pi_range1 rfl T.z_range (pa_cons (pe_call G_l_draw (hr.mono (by decide)) (by rfl) T.g_l_draw T.F_l_draw.kp T.b_l_draw .nil pass0 (pa_cons (pv 0) (pa_cons pe_int pa_nil))) pa_nil)) (pg_name (i := 3) sc_l_roads.nd rfl (Or.inl rfl))
   (pss_cons (ps_set (i := 4) sc_l_roads.nd rfl (Or.inl rfl) (pe_callTy (listK (K := K) rfl) (by rfl) T.z_list (by decide +kernel) (pa_cons (pv 1) pa_nil)))
  (pss_cons (ps_par (i := 5) (j := 6) rfl sc_l_roads.nd rfl rfl (by decide) rfl rfl (pa_cons (pe_bm PySem.F.plainAttrs_list PySem.F.slot_list_pop PySem.F.type_list_pop mt_popAt (pv 4) (pa_cons (pe_call G_l_draw (hr.mono (by decide)) (by rfl) T.g_l_draw T.F_l_draw.kp T.b_l_draw .nil pass0 (pa_cons (pv 0) (pa_cons (pe_callB (lenK (K := K) rfl) (by rfl) T.z_len (by decide +kernel) (pa_cons (pv 4) pa_nil)) pa_nil))) pa_nil)) (pa_cons (pe_bm PySem.F.plainAttrs_list PySem.F.slot_list_pop PySem.F.type_list_pop mt_popAt (pv 4) (pa_cons (pe_call G_l_draw (hr.mono (by decide)) (by rfl) T.g_l_draw T.F_l_draw.kp T.b_l_draw .nil pass0 (pa_cons (pv 0) (pa_cons (pe_callB (lenK (K := K) rfl) (by rfl) T.z_len (by decide +kernel) (pa_cons (pv 4) pa_nil)) pa_nil))) pa_nil)) pa_nil)) (by rfl))
  (pss_one (ps_expr (pe_bm PySem.F.plainAttrs_list PySem.F.slot_list_append PySem.F.type_list_append mt_append (pv 2) (pa_cons (pe_tup (pa_cons (pv 5) (pa_cons (pv 6) (pa_cons (pe_ix (ix_listK (K := K) rfl) (pe_lst (pa_cons pe_int (pa_cons pe_int (pa_cons (pe_op op_add pe_int (pe_call G_l_draw (hr.mono (by decide)) (by rfl) T.g_l_draw T.F_l_draw.kp T.b_l_draw .nil pass0 (pa_cons (pv 0) (pa_cons pe_int pa_nil)))) pa_nil)))) (pe_call G_l_draw (hr.mono (by decide)) (by rfl) T.g_l_draw T.F_l_draw.kp T.b_l_draw .nil pass0 (pa_cons (pv 0) (pa_cons pe_int pa_nil))) (fun _ _ => rfl)) pa_nil)))) pa_nil)))))))
  (pss_one (ps_ret (pv 2)))))), ?_⟩
    refine ⟨Nat.zero_le _, fun f hf => ?_⟩
    have hfs := hW.st.ne_s hf
    have hfc := hW.st.ne_c hf
    have hfB := hW.none_of hf
    have hW1 := hW.ext (Ex.new (o := .lst []) hf)
    have hf1 : (upd H f (.lst [])) f = some (.lst []) := upd_same
    refine ⟨_, rfl, a, _, rfl, .inl (SqL.of (hW1.ex _ _ ha)), _, 2, rfl, rfl, _, rfl, ite2 (fun _ => ?_) (fun hl => ?_)⟩
    · refine ⟨_, rfl, ?_⟩
      exact q f [] [] _ _ (Ex.new (o := .lst []) hfB) ⟨Nat.zero_le _, fun r hr => nomatch hr⟩ .nil hf upd_same (hW1.know hf1 hfs hfc)
    have hl2 : 2 ≤ ps.length := by
      have := of_decide_eq_false (Bool.eq_false_iff.mpr hl)
      rw [List.length_map] at this
      omega
    -- for turn in range(draw(state, 13))
    refine ⟨_, rfl, s, c, 13, rfl, hW1.st, by decide, by decide, fun r H1 r0 r1 st1 off1 => ?_⟩
    have hW2 := hW1.off st1 off1
    refine ⟨r, rfl, by omega, by omega, for_range (lo := 0) (n := r.toNat) (fun i σ H' => ∃ (ts : List V) (rs : List Row) (Bi : Hp) (y3 y4 y5 y6 : Option V), σ = [some (.ref s), some (.ref a), some (.ref f), y3, y4, y5, y6] ∧ Wd s c Bi H' ∧ Ex B Bi ∧
      Bi f = none ∧ H' f = some (.lst ts) ∧ RowsAt Bi ts rs ∧ rs.length ≤ i ∧ ∀ r ∈ rs, RoadOk ps r) ⟨[], [], B, _, _, _, _, rfl, hW2, Ex.refl B, hfB, (off1 f hfs hfc).trans upd_same, .nil, Nat.le_refl _, fun x hx => nomatch hx⟩ ?_ ?_⟩
    · rintro i σ H2 hi ⟨ts, rs, Bi, y3, y4, y5, y6, rfl, W2, eB, fB, f2, hrs, l0, ok⟩
      have haI := eB _ _ ha
      have lts := hrs.len
      -- left = list(places)
      refine ⟨_, rfl, a, _, rfl, .inl (SqL.of (W2.ex _ _ haI)), fun l hl => ?_⟩
      have lB := W2.none_of hl
      have lf : f ≠ l := ne_of_none f2 hl
      have ls := W2.st.ne_s hl
      have lc := W2.st.ne_c hl
      have W3 := W2.ext (Ex.new (o := .lst (ps.map V.int)) hl)
      have f3 := Ex.new (o := .lst (ps.map V.int)) hl _ _ f2
      have l3 : (upd H2 l (.lst (ps.map V.int))) l = some (.lst (ps.map V.int)) := upd_same
      -- one = left.pop(draw(state, len(left)))
      refine ⟨_, rfl, .inl ⟨rfl, _, SqL.of l3⟩, _, rfl, _, rfl, l, _, rfl, .inl (SqL.of l3), s, c, _, rfl, W3.st, by rw [List.length_map]; omega, by rw [List.length_map]; have := hP.l1; omega, fun k H4 k0 k1 st4 off4 => ?_⟩
      rw [List.length_map] at k1
      have W4 := W3.off st4 off4
      have f4 := (off4 f hfs hfc).trans f3
      have l4 := (off4 l ls lc).trans l3
      have hk : k.toNat < ps.length := by omega
      have gk : ps[k.toNat]? = some ps[k.toNat] := List.getElem?_eq_getElem hk
      refine ⟨l, _, k, k.toNat, .int ps[k.toNat], rfl, rfl, l4, by omega, by have := hP.l1; omega, seq_nat k0 (by rw [List.length_map]; exact k1), by rw [List.getElem?_map, gk]; rfl, ?_⟩
      rw [erase_ints]
      have W5 := W4.mut (o := .lst ((ps.eraseIdx k.toNat).map V.int)) lB ls lc
      have f5 : (upd H4 l (.lst ((ps.eraseIdx k.toNat).map V.int))) f = some (.lst ts) := by rw [upd_ne lf]; exact f4
      have l5 : (upd H4 l (.lst ((ps.eraseIdx k.toNat).map V.int))) l = some (.lst ((ps.eraseIdx k.toNat).map V.int)) := upd_same
      have le : (ps.eraseIdx k.toNat).length = ps.length - 1 := List.length_eraseIdx_of_lt hk
      -- other = left.pop(draw(state, len(left)))
      refine ⟨_, rfl, .inl ⟨rfl, _, SqL.of l5⟩, _, rfl, _, rfl, l, _, rfl, .inl (SqL.of l5), s, c, _, rfl, W5.st, by rw [List.length_map]; omega, by rw [List.length_map]; have := hP.l1; omega, fun j H6 j0 j1 st6 off6 => ?_⟩
      rw [List.length_map] at j1
      have W6 := W5.off st6 off6
      have f6 := (off6 f hfs hfc).trans f5
      have l6 := (off6 l ls lc).trans l5
      have hj : j.toNat < (ps.eraseIdx k.toNat).length := by omega
      have gj : (ps.eraseIdx k.toNat)[j.toNat]? = some (ps.eraseIdx k.toNat)[j.toNat] := List.getElem?_eq_getElem hj
      have dif := erase_ne hP.nd gk gj
      have mj : (ps.eraseIdx k.toNat)[j.toNat] ∈ ps := List.mem_of_mem_eraseIdx (List.getElem_mem hj)
      have mk : ps[k.toNat] ∈ ps := List.getElem_mem hk
      generalize hone : ps[k.toNat] = one at dif mk
      generalize hoth : (ps.eraseIdx k.toNat)[j.toNat] = oth at dif mj
      refine ⟨l, _, j, j.toNat, .int oth, rfl, rfl, l6, by omega, by have := hP.l1; omega, seq_nat j0 (by rw [List.length_map]; exact j1), by rw [List.getElem?_map, gj, hoth]; rfl, _, _, rfl, ?_⟩
      have W7 := W6.mut (o := .lst (((ps.eraseIdx k.toNat).map V.int).eraseIdx j.toNat)) lB ls lc
      have f7 : (upd H6 l (.lst (((ps.eraseIdx k.toNat).map V.int).eraseIdx j.toNat))) f = some (.lst ts) := by rw [upd_ne lf]; exact f6
      -- found.append((one, other, [1, 30, 1 + draw(state, 30)][draw(state, 3)]))
      refine ⟨_, rfl, .inl ⟨rfl, _, SqL.of f7⟩, _, rfl, _, rfl, _, rfl, s, c, 30, rfl, W7.st, by decide, by decide, fun t H8 t0 t1 st8 off8 => ?_⟩
      have W8 := W7.off st8 off8
      have f8 := (off8 f hfs hfc).trans f7
      refine ⟨1, t, rfl, rfl, by show 3 ≤ sizeLine; decide, fun p hp => ?_⟩
      have p9 : (upd H8 p (.lst [.int 1, .int 30, .int (1 + t)])) p = some (.lst [.int 1, .int 30, .int (1 + t)]) := upd_same
      have W9 := W8.ext (Ex.new (o := .lst [.int 1, .int 30, .int (1 + t)]) hp)
      have f9 := Ex.new (o := .lst [.int 1, .int 30, .int (1 + t)]) hp _ _ f8
      refine ⟨_, rfl, s, c, 3, rfl, W9.st, by decide, by decide, fun v H10 v0 v1 st10 off10 => ?_⟩
      have W10 := W9.off st10 off10
      have f10 := (off10 f hfs hfc).trans f9
      have p10 := (off10 p (W8.st.ne_s hp) (W8.st.ne_c hp)).trans p9
      obtain ⟨z, hz, z0, z1⟩ : ∃ z, atI [V.int 1, .int 30, .int (1 + t)] v = some (.int z) ∧ 1 ≤ z ∧ z ≤ 30 := by
        have : v = 0 ∨ v = 1 ∨ v = 2 := by omega
        rcases this with rfl | rfl | rfl
        · exact ⟨1, rfl, by omega, by omega⟩
        · exact ⟨30, rfl, by omega, by omega⟩
        · exact ⟨1 + t, rfl, by omega, by omega⟩
      refine ⟨p, _, v, _, rfl, rfl, SqL.of p10, hz, by show 3 ≤ sizeLine; decide, fun u hu => ?_⟩
      have uB := W10.none_of hu
      have u11 : (upd H10 u (.tup [.int one, .int oth, .int z])) u = some (.tup (rowV (one, oth, z))) := upd_same
      have f11 := Ex.new (o := .tup [.int one, .int oth, .int z]) hu _ _ f10
      have W11 := (W10.ext (Ex.new (o := .tup [.int one, .int oth, .int z]) hu)).know u11 (W10.st.ne_s hu) (W10.st.ne_c hu)
      have uf : f ≠ u := ne_of_none f10 hu
      have eB' : Ex Bi (upd Bi u (.tup (rowV (one, oth, z)))) := Ex.new uB
      have fB' : (upd Bi u (.tup (rowV (one, oth, z)))) f = none := by rw [upd_ne uf]; exact fB
      refine ⟨f, _, _, rfl, rfl, f11, len8 (by omega), ?_⟩
      refine ⟨ts ++ [.ref u], rs ++ [(one, oth, z)], _, _, _, _, _, by rw [← hone]; rfl, W11.mut fB' hfs hfc, eB.trans eB', fB', upd_same, RowsAt.snoc upd_same (hrs.mono eB'), by rw [List.length_append, List.length_singleton]; omega, fun x hx => ?_⟩
      rcases List.mem_append.mp hx with hx | hx
      · exact ok x hx
      · obtain rfl := List.mem_singleton.mp hx
        exact ⟨mk, mj, dif, z0, z1⟩
    · rintro σ H2 ⟨ts, rs, Bi, y3, y4, y5, y6, rfl, W2, eB, fB, f2, hrs, l0, ok⟩
      refine ⟨_, rfl, ?_⟩
      exact q f ts rs _ H2 (eB.trans (Ex.new fB)) ⟨by omega, ok⟩ (hrs.mono (Ex.new fB)) hf upd_same (W2.know f2 hfs hfc)
end
end K01

set_option maxHeartbeats 2000000
namespace K01
open PySem PySem.Spec PyProof.Rows L2 Evl MyG
/-! ### what makes a net -/
def sp_isnum : Sp := fun vs H Q _ => ∃ x t, vs = [x] ∧ AnyT H x t ∧ Q (.bl (t == "int")) H
def hallV : V → Bool
  | .int i => decide (0 ≤ i) && decide (i ≤ 999)
  | _ => false
def hallsB (xs : List V) : Bool := decide (1 ≤ xs.length) && (decide (xs.length ≤ 8) && (xs.all hallV && decide xs.Nodup))
def sp_areh : Sp := fun vs H Q _ => ∃ x t, vs = [x] ∧ AnyT H x t ∧ (t ≠ "list" → Q (.bl false) H) ∧ (t = "list" → ∃ a xs, x = .ref a ∧ H a = some (.lst xs) ∧ xs.length ≤ 1000 ∧ (∀ y ∈ xs, ∃ ty, AnyT H y ty) ∧ ∀ H', Ex H H' → Q (.bl (hallsB xs)) H')
theorem int_of' {H : Hp} {x : V} {t : String} (h : AnyT H x t) (e : t = "int") : ∃ i, x = .int i := by
  cases h with
  | int i => exact ⟨i, rfl⟩
  | _ => exact absurd e (by decide)
theorem int_of {H : Hp} {x : V} (h : AnyT H x "int") : ∃ i, x = .int i := int_of' h rfl
theorem not_int {H : Hp} {x : V} {t : String} (h : AnyT H x t) (ht : t ≠ "int") : hallV x = false := by
  cases h with
  | int i => exact absurd rfl ht
  | _ => rfl
theorem ints_of {xs : List V} (h : xs.all hallV = true) : ∃ ns : List Int, xs = ns.map V.int := by
  induction xs with
  | nil => exact ⟨[], rfl⟩
  | cons x r ih =>
    rw [List.all_cons, Bool.and_eq_true] at h
    obtain ⟨ns, rfl⟩ := ih h.2
    cases x with
    | int i => exact ⟨i :: ns, rfl⟩
    | _ => exact absurd h.1 (by simp [hallV])
theorem nodup_ints {ns : List Int} : (ns.map V.int).Nodup ↔ ns.Nodup := by
  constructor
  · intro h
    exact List.Pairwise.of_map V.int (fun a b (hab : V.int a ≠ V.int b) (e : a = b) => hab (by rw [e])) h
  · intro h
    exact List.Pairwise.map _ (fun a b (hab : a ≠ b) (e : V.int a = V.int b) => hab (V.int.inj e)) h
section
variable {P : Program} {w : World} {K : PySem.W.Frag} {mg : Str → Option Value} {base : Heap}
theorem ok_isnum (T : Tx K mg) : FnOk P w K mg base CX0 1 T.a_is_number T.d_is_number ["thing"] sp_isnum := by
  refine T.F_is_number.ok sc_is_number (fun vs H Q E h => ?_) (fun cdv A outer s H vs Q E hr h => ?_)
  · obtain ⟨_, _, rfl, _⟩ := h
    rfl
  · obtain ⟨x, t, rfl, ht, q⟩ := h
    refine ⟨_, (pss_one (ps_ret (pe_and (pe_callB (isiK (K := K) rfl) (by rfl) T.z_isinstance (by decide +kernel) (pa_cons (pv 0) (pa_cons (pe_bltn (v := .ty "int") (by rfl) T.z_int (by decide +kernel) rfl) pa_nil))) (pe_one (pe_not (pe_callB (isiK (K := K) rfl) (by rfl) T.z_isinstance (by decide +kernel) (pa_cons (pv 0) (pa_cons (pe_bltn (v := .ty "bool") (by rfl) T.z_bool (by decide +kernel) rfl) pa_nil)))))))), ?_⟩
    refine ⟨_, rfl, ?_⟩
    refine ⟨_, .ty "int", _, .type "int", _, rfl, .ty _, ht.ty, kit_ty (kit_all ht.mem).1, ?_⟩
    refine ⟨_, rfl, ?_⟩
    cases hb : (t == "int" || t == "bool") with
    | true =>
      refine iteT ?_
      refine ⟨_, rfl, ?_⟩
      refine ⟨_, .ty "bool", _, .type "bool", _, rfl, .ty _, ht.ty, kit_ty (kit_all ht.mem).2.1, ?_⟩
      refine ⟨_, rfl, ?_⟩
      rw [Bool.or_eq_true] at hb
      rcases hb with e | e
      · rw [eq_of_beq e] at q ⊢
        exact q
      · rw [eq_of_beq e] at q ⊢
        exact q
    | false =>
      refine iteF ?_
      rw [Bool.or_eq_false_iff] at hb
      rw [hb.1] at q
      exact q
theorem ok_areh (T : Tx K mg) : FnOk P w K mg base CX0 2 T.a__are_halls T.d__are_halls ["things"] sp_areh := by
  have G_is_number := ok_isnum (P := P) (w := w) (base := base) T
  refine T.F__are_halls.ok sc__are_halls (fun vs H Q E h => ?_) (fun cdv A outer s H vs Q E hr h => ?_)
  · obtain ⟨_, _, rfl, _⟩ := h
    rfl
  · obtain ⟨x, t, rfl, ht, q1, q2⟩ := h
    refine ⟨_, (pss_one (ps_ret (pe_and (pe_callB (isiK (K := K) rfl) (by rfl) T.z_isinstance (by decide +kernel) (pa_cons (pv 0) (pa_cons (pe_bltn (v := .ty "list") (by rfl) T.z_list (by decide +kernel) rfl) pa_nil))) (pe_and (pe_chain op_le op_le pe_int (pe_callB (lenK (K := K) rfl) (by rfl) T.z_len (by decide +kernel) (pa_cons (pv 0) pa_nil)) (pe_glob (v := .int (8)) rfl T.v_MOST_HALLS ⟨_, rfl⟩)) (pe_and (pe_callB (allK (K := K) rfl rfl) (by rfl) T.z_all (by decide +kernel) (pa_cons (pe_lc (own := [("thing", 1)]) (g := (gName 1)) (tt := tYes) rfl sc__are_halls.nd (iListK (K := K) rfl (pv 0)) (blkOk_by (N := n__are_halls) (sc := defScope s__are_halls) (by decide +kernel)) (fun _ _ _ _ _ => (pg_name (i := 1) sc__are_halls.nd rfl (Or.inl rfl))) (fun _ _ _ _ _ => pts_nil) (fun _ _ _ _ _ => (pe_and (pe_call G_is_number (hr.mono (by decide)) (by rfl) T.g_is_number T.F_is_number.kp T.b_is_number .nil pass0 (pa_cons (pv 1) pa_nil)) (pe_one (pe_chain op_le op_le pe_int (pv 1) (pe_glob (v := .int (999)) rfl T.v_LAST_HALL ⟨_, rfl⟩)))))) pa_nil)) (pe_one (pe_cmpR op_eq (lenSetK (K := K) rfl (by rfl) T.z_len (by rfl) T.z_set (pv 0)) (pe_callB (lenK (K := K) rfl) (by rfl) T.z_len (by decide +kernel) (pa_cons (pv 0) pa_nil)) (nomark _)))))))), ?_⟩
    refine ⟨_, rfl, ?_⟩
    refine ⟨_, .ty "list", _, .type "list", _, rfl, .ty _, ht.ty, kit_ty (kit_all ht.mem).2.2.1, ?_⟩
    refine ⟨_, rfl, ?_⟩
    by_cases e : t = "list"
    · subst e
      obtain ⟨a, xs, rfl, ha, hz, hany, q⟩ := q2 rfl
      refine iteT ?_
      -- 1 <= len(things) <= MOST_HALLS
      refine ⟨_, rfl, a, _, rfl, .inl (SqL.of ha), 1, _, rfl, rfl, _, rfl, ?_⟩
      by_cases l1 : 1 ≤ xs.length
      · rw [decide_eq_true (show (1 : Int) ≤ (xs.length : Int) by omega)]
        refine iteT ⟨_, 8, rfl, rfl, _, rfl, ?_⟩
        by_cases l2 : xs.length ≤ 8
        · rw [decide_eq_true (show (xs.length : Int) ≤ 8 by omega)]
          refine iteT ?_
          -- all([..])
          refine un_and (un_cb (un_cons ?_))
          refine go_L (el_map (ys := (xs.map hallV).map V.bl) (ev_var rfl) (SqL.of ha) (by omega) (by simp) (fun _ => rfl) (fun i x y H1 e1 hx hy => ?_)) (fun p H1 hp e1 h1 => ?_)
          · have hxm := List.mem_of_getElem? hx
            rw [List.map_map, List.getElem?_map, hx] at hy
            obtain rfl := Option.some.inj hy
            obtain ⟨ty, hty⟩ := hany x hxm
            intro H2 e2 Q q
            refine ⟨_, rfl, x, ty, rfl, (hty.ext e1).ext e2, _, rfl, ?_⟩
            by_cases ei : ty = "int"
            · subst ei
              obtain ⟨i, rfl⟩ := int_of hty
              refine iteT ⟨_, rfl, 0, i, rfl, rfl, _, rfl, ?_⟩
              by_cases h0 : 0 ≤ i
              · rw [decide_eq_true h0]
                refine iteT ⟨i, 999, rfl, rfl, ?_⟩
                have z := q H2 (Ex.refl _)
                show Q (.bl (decide (i ≤ 999))) H2
                have ez : hallV (.int i) = decide (i ≤ 999) := by
                  show (decide (0 ≤ i) && decide (i ≤ 999)) = _
                  rw [decide_eq_true h0, Bool.true_and]
                rw [← ez]
                exact z
              · rw [decide_eq_false h0]
                refine iteF ?_
                have z := q H2 (Ex.refl _)
                have ez : hallV (.int i) = false := by
                  show (decide (0 ≤ i) && decide (i ≤ 999)) = _
                  rw [decide_eq_false h0, Bool.false_and]
                rw [← ez]
                exact z
            · have eb : (ty == "int") = false := beq_eq_false_iff_ne.mpr ei
              rw [eb]
              refine iteF ?_
              have z := q H2 (Ex.refl _)
              have ez := not_int hty ei
              rw [← ez]
              exact z
          · refine ⟨p, xs.map hallV, rfl, SqL.of h1, _, rfl, ?_⟩
            have eall : (xs.map hallV).all id = xs.all hallV := by rw [List.all_map]; rfl
            rw [eall]
            cases hall : xs.all hallV with
            | true =>
              refine iteT ?_
              -- len(set(things)) == len(things)
              obtain ⟨ns, rfl⟩ := ints_of hall
              refine ⟨_, rfl, a, ns, rfl, SqL.of (e1 _ _ ha), by rw [List.length_map] at hz; omega, fun n hn => ⟨_, rfl, a, _, rfl, .inl (SqL.of (e1 _ _ ha)), rfl, ?_⟩⟩
              have z := q H1 e1
              have ez : hallsB (ns.map V.int) = decide (V.int (n : Int) = V.int ((ns.map V.int).length : Nat)) := by
                unfold hallsB
                rw [decide_eq_true l1, decide_eq_true l2, hall, Bool.true_and, Bool.true_and, Bool.true_and]
                refine decide_eq_decide.mpr (nodup_ints.trans (hn.symm.trans ?_))
                rw [List.length_map]
                exact ⟨fun e => by rw [e], fun e => by have := V.int.inj e; omega⟩
              rw [← ez]
              exact z
            | false =>
              refine iteF ?_
              have z := q H1 e1
              have ez : hallsB xs = false := by
                unfold hallsB
                rw [hall, Bool.false_and, Bool.and_false, Bool.and_false]
              rw [ez] at z
              exact z
        · rw [decide_eq_false (show ¬ (xs.length : Int) ≤ 8 by omega)]
          refine iteF ?_
          have z := q H (Ex.refl _)
          have ez : hallsB xs = false := by
            unfold hallsB
            rw [decide_eq_false l2, Bool.false_and, Bool.and_false]
          rw [ez] at z
          exact z
      · rw [decide_eq_false (show ¬ (1 : Int) ≤ (xs.length : Int) by omega)]
        refine iteF ⟨_, rfl, iteF ?_⟩
        have z := q H (Ex.refl _)
        have ez : hallsB xs = false := by
          unfold hallsB
          rw [decide_eq_false l1, Bool.false_and]
        rw [ez] at z
        exact z
    · have eb : (t == "list") = false := beq_eq_false_iff_ne.mpr e
      rw [eb]
      exact iteF (q1 e)
end
end K01

set_option maxHeartbeats 2000000
namespace K01
open PySem PySem.Spec PyProof.Rows L2 Evl MyG
def linkB (hs : List Int) : List V → Bool
  | [.int a, .int b, .int c] => decide (a ∈ hs) && (decide (b ∈ hs) && (!decide (a = b) && (decide (1 ≤ c) && decide (c ≤ 30))))
  | _ => false
def sp_isl : Sp := fun vs H Q _ => ∃ x t h hs, vs = [x, .ref h] ∧ AnyT H x t ∧ H h = some (.lst (hs.map V.int)) ∧ (t ≠ "tuple" → Q (.bl false) H) ∧
  (t = "tuple" → ∃ a xs, x = .ref a ∧ H a = some (.tup xs) ∧ xs.length ≤ 1000 ∧ (∀ y ∈ xs, ∃ ty, AnyT H y ty) ∧ ∀ H', Ex H H' → Q (.bl (linkB hs xs)) H')
theorem el_mapT {K : PySem.W.Frag} {σ : L2.St} {H : Hp} {te : TE} {a : Addr} {xs ys : List V} {tl : TE} {j : Nat} {vs : List Nat} (h : Ev tl σ H (.ref a)) (hx : SqT K H a xs) (hz : xs.length ≤ 40000) (hl : ys.length = xs.length)
    (hw : ∀ x, wipe ((wipe σ vs).set j (some x)) vs = wipe σ vs) (he : ∀ (i : Nat) (x y : V) H1, Ex H H1 → xs[i]? = some x → ys[i]? = some y → Ev te ((wipe σ vs).set j (some x)) H1 y) : EvL (tLc (iTup K tl) (gName j) tYes te vs) σ H ys := fun H0 e Q q =>
  h H0 e _ fun H1 e1 => ⟨a, rfl, ⟨xs, ex_t (e.trans e1) hx⟩, fun Dl hD => by
    refine lc_tup (xs := xs) (fun i H' => Ex H1 H' ∧ H' Dl = some (.lst (ys.take i))) ⟨Ex.new hD, upd_same⟩ (fun i H' _ p => ex_t ((e.trans e1).trans p.1) hx) (fun i x H' hi p => ⟨hw x, un_yes (iteT ?_)⟩) (fun H' p => q Dl H' (fresh_back e1 hD) (e1.trans p.1) ?_)
    · have h1 := (List.getElem?_eq_some_iff.mp hi).1
      have h2 : i < ys.length := by omega
      refine he i x ys[i] H' ((e.trans e1).trans p.1) hi (List.getElem?_eq_getElem h2) H' (Ex.refl _) _ (fun H2 e2 => ⟨_, e2 _ _ p.2, ?_, (p.1.trans e2).mut hD, ?_⟩)
      · rw [List.length_take]; exact sz_lt (by omega)
      · rw [upd_same, List.take_add_one, List.getElem?_eq_getElem h2]; rfl
    · rw [p.2, ← hl, List.take_length]⟩
theorem link_no (hs : List Int) {xs : List V} (h : xs.all (fun x => match x with | .int _ => true | _ => false) = false) : linkB hs xs = false := by
  unfold linkB
  split
  · exact absurd h (by simp)
  · rfl
section
variable {P : Program} {w : World} {K : PySem.W.Frag} {mg : Str → Option Value} {base : Heap}
theorem ok_isl (T : Tx K mg) : FnOk P w K mg base CX0 2 T.a__is_link T.d__is_link ["thing", "halls"] sp_isl := by
  have G_is_number := ok_isnum (P := P) (w := w) (base := base) T
  refine T.F__is_link.ok sc__is_link (fun vs H Q E h => ?_) (fun cdv A outer s H vs Q E hr h => ?_)
  · obtain ⟨_, _, _, _, rfl, _⟩ := h
    rfl
  · obtain ⟨x, t, h, hs, rfl, ht, hh, q1, q2⟩ := h
    refine ⟨_, (pss_cons (ps_if (PW.pt (pw_or (pt_not (pt_val (pe_callB (isiK (K := K) rfl) (by rfl) T.z_isinstance (by decide +kernel) (pa_cons (pv 0) (pa_cons (pe_bltn (v := .ty "tuple") (by rfl) T.z_tuple (by decide +kernel) rfl) pa_nil))))) (pw_or1 (pt_cmpR op_ne (pe_callB (lenK (K := K) rfl) (by rfl) T.z_len (by decide +kernel) (pa_cons (pv 0) pa_nil)) pe_int (nomark _))))) (pss_one (ps_ret pe_bl)) pss_nil)
  (pss_cons (ps_if (pt_not (pt_val (pe_callB (allK (K := K) rfl rfl) (by rfl) T.z_all (by decide +kernel) (pa_cons (pe_lc (own := [("part", 5)]) (g := (gName 5)) (tt := tYes) rfl sc__is_link.nd (iTupK (K := K) rfl (pv 0)) (blkOk_by (N := n__is_link) (sc := defScope s__is_link) (by decide +kernel)) (fun _ _ _ _ _ => (pg_name (i := 5) sc__is_link.nd rfl (Or.inl rfl))) (fun _ _ _ _ _ => pts_nil) (fun _ _ _ _ _ => (pe_call G_is_number (hr.mono (by decide)) (by rfl) T.g_is_number T.F_is_number.kp T.b_is_number .nil pass0 (pa_cons (pv 5) pa_nil)))) pa_nil)))) (pss_one (ps_ret pe_bl)) pss_nil)
  (pss_cons (ps_asg (pv 0) (pg_tup rfl (pgs_cons (pg_name (i := 2) sc__is_link.nd rfl (Or.inl rfl)) (pgs_cons (pg_name (i := 3) sc__is_link.nd rfl (Or.inl rfl)) (pgs_cons (pg_name (i := 4) sc__is_link.nd rfl (Or.inl rfl)) pgs_nil)))))
  (pss_one (ps_ret (pe_and (pe_cmpR (op_inK (K := K) rfl) (pv 2) (pv 1) (by rfl)) (pe_and (pe_cmpR (op_inK (K := K) rfl) (pv 3) (pv 1) (by rfl)) (pe_and (pe_cmpR op_ne (pv 2) (pv 3) (nomark _)) (pe_one (pe_chain op_le op_le pe_int (pv 4) (pe_glob (v := .int (30)) rfl T.v_MOST_COST ⟨_, rfl⟩))))))))))), ?_⟩
    refine ⟨_, rfl, ?_⟩
    refine ⟨_, .ty "tuple", _, .type "tuple", _, rfl, .ty _, ht.ty, kit_ty (kit_all ht.mem).2.2.2.1, _, rfl, ?_⟩
    by_cases e : t = "tuple"
    · subst e
      obtain ⟨a, xs, rfl, ha, hz, hany, q⟩ := q2 rfl
      refine iteF ?_
      -- len(thing) != 3
      refine ⟨_, rfl, a, _, rfl, .inr (SqT.of ha), rfl, _, rfl, ?_⟩
      by_cases l3 : xs.length = 3
      · rw [show decide (V.int (xs.length : Nat) = V.int 3) = true from decide_eq_true (by rw [l3]; rfl)]
        refine iteF ?_
        -- if not all([..])
        let isI : V → Bool := fun x => match x with | .int _ => true | _ => false
        refine un_next ?_
        dsimp only
        refine un_seq (un_if (un_not (un_tB (un_cb (un_cons ?_)))))
        refine go_L (el_mapT (ys := (xs.map isI).map V.bl) (ev_var rfl) (SqT.of ha) (by omega) (by simp) (fun _ => rfl) (fun i x y H1 e1 hx hy => ?_)) (fun p H1 hp e1 h1 => ?_)
        · have hxm := List.mem_of_getElem? hx
          rw [List.map_map, List.getElem?_map, hx] at hy
          obtain rfl := Option.some.inj hy
          obtain ⟨ty, hty⟩ := hany x hxm
          intro H2 e2 Q q
          refine ⟨_, rfl, x, ty, rfl, (hty.ext e1).ext e2, ?_⟩
          have z := q H2 (Ex.refl _)
          have ez : isI x = (ty == "int") := by
            cases hty <;> rfl
          rw [← ez]
          exact z
        · refine ⟨p, xs.map isI, rfl, SqL.of h1, _, rfl, ?_⟩
          have eall : (xs.map isI).all id = xs.all isI := by rw [List.all_map]; rfl
          rw [eall]
          cases hall : xs.all isI with
          | false =>
            refine iteT ?_
            have z := q H1 e1
            rw [link_no hs hall] at z
            exact z
          | true =>
            refine iteF ?_
            obtain ⟨o, u, v, rfl⟩ : ∃ o u v : Int, xs = [.int o, .int u, .int v] := by
              match xs, l3, hall with
              | [x1, x2, x3], _, hall =>
                rw [List.all_eq_true] at hall
                have f : ∀ x, isI x = true → ∃ i, x = .int i := fun x hx => by
                  cases x with
                  | int i => exact ⟨i, rfl⟩
                  | _ => exact absurd hx (by simp [isI])
                obtain ⟨o, rfl⟩ := f x1 (hall x1 (by simp))
                obtain ⟨u, rfl⟩ := f x2 (hall x2 (by simp))
                obtain ⟨v, rfl⟩ := f x3 (hall x3 (by simp))
                exact ⟨o, u, v, rfl⟩
            have hh1 := e1 _ _ hh
            -- one, other, cost = thing
            refine ⟨_, rfl, a, _, rfl, SqT.of (e1 _ _ ha), rfl, _, _, rfl, _, _, rfl, _, _, rfl, rfl, ?_⟩
            -- return ..
            have z := q H1 e1
            have ez : linkB hs [.int o, .int u, .int v] = (decide (o ∈ hs) && (decide (u ∈ hs) && (!decide (o = u) && (decide (1 ≤ v) && decide (v ≤ 30))))) := rfl
            rw [ez] at z
            refine ⟨_, rfl, _, rfl, h, _, rfl, .inl (SqL.of hh1), rfl, flat_ints hs, _, rfl, ?_⟩
            rw [inV_ints]
            cases d1 : decide (o ∈ hs) with
            | false =>
              rw [d1] at z
              exact iteF z
            | true =>
              rw [d1] at z
              refine iteT ⟨_, rfl, _, rfl, h, _, rfl, .inl (SqL.of hh1), rfl, flat_ints hs, _, rfl, ?_⟩
              rw [inV_ints]
              cases d2 : decide (u ∈ hs) with
              | false =>
                rw [d2] at z
                exact iteF z
              | true =>
                rw [d2] at z
                refine iteT ⟨_, rfl, _, rfl, rfl, _, rfl, ?_⟩
                have e3 : decide (V.int o = V.int u) = decide (o = u) := decide_eq_decide.mpr ⟨fun e => V.int.inj e, fun e => by rw [e]⟩
                rw [e3]
                cases d3 : decide (o = u) with
                | true =>
                  rw [d3] at z
                  exact iteF z
                | false =>
                  rw [d3] at z
                  refine iteT ⟨_, rfl, 1, v, rfl, rfl, _, rfl, ?_⟩
                  cases d4 : decide (1 ≤ v) with
                  | false =>
                    rw [d4] at z
                    exact iteF z
                  | true =>
                    rw [d4] at z
                    exact iteT ⟨v, 30, rfl, rfl, z⟩
      · rw [show decide (V.int (xs.length : Nat) = V.int 3) = false from decide_eq_false (fun e => l3 (by have := V.int.inj e; omega))]
        refine iteT ?_
        have z := q H (Ex.refl _)
        have ez : linkB hs xs = false := by
          unfold linkB
          split
          · exact absurd rfl l3
          · rfl
        rw [ez] at z
        exact z
    · have eb : (t == "tuple") = false := beq_eq_false_iff_ne.mpr e
      rw [eb]
      exact iteT (q1 e)
end
end K01

set_option maxHeartbeats 2000000
namespace K01
open PySem PySem.Spec PyProof.Rows L2 Evl MyG
/-- what each thing of a list of links is: a tuple of these, or none -/
def ThingsAt (H : Hp) : List V → List (Option (List V)) → Prop := Paired fun (x : V) (d : Option (List V)) => match d with
  | none => ∃ t, AnyT H x t ∧ t ≠ "tuple"
  | some ys => ∃ a, x = .ref a ∧ H a = some (.tup ys) ∧ ys.length ≤ 1000 ∧ ∀ y ∈ ys, ∃ ty, AnyT H y ty
def thingB (hs : List Int) : Option (List V) → Bool
  | none => false
  | some ys => linkB hs ys
def linksB (hs : List Int) (ds : List (Option (List V))) : Bool := decide (ds.length ≤ 12) && ds.all (thingB hs)
def sp_arel : Sp := fun vs H Q _ => ∃ x t h hs, vs = [x, .ref h] ∧ AnyT H x t ∧ H h = some (.lst (hs.map V.int)) ∧ (t ≠ "list" → Q (.bl false) H) ∧
  (t = "list" → ∃ a xs ds, x = .ref a ∧ H a = some (.lst xs) ∧ xs.length ≤ 1000 ∧ ThingsAt H xs ds ∧ ∀ H', Ex H H' → Q (.bl (linksB hs ds)) H')
theorem paired_at {α β : Type} {R : α → β → Prop} : ∀ {xs : List α} {ys : List β} {i : Nat} {x : α}, Paired R xs ys → xs[i]? = some x → ∃ y, ys[i]? = some y ∧ R x y
  | _, _, _, _, .nil, e => by simp at e
  | _, _, 0, _, .cons r _, e => by simp at e; subst e; exact ⟨_, rfl, r⟩
  | _, _, i + 1, x, .cons _ t, e => by
    obtain ⟨y, h1, h2⟩ := paired_at (i := i) (x := x) t (by simpa using e)
    exact ⟨y, by simpa using h1, h2⟩
section
variable {P : Program} {w : World} {K : PySem.W.Frag} {mg : Str → Option Value} {base : Heap}
theorem ok_arel (T : Tx K mg) : FnOk P w K mg base CX0 3 T.a__are_links T.d__are_links ["things", "halls"] sp_arel := by
  have G__is_link := ok_isl (P := P) (w := w) (base := base) T
  refine T.F__are_links.ok sc__are_links (fun vs H Q E h => ?_) (fun cdv A outer s H vs Q E hr h => ?_)
  · obtain ⟨_, _, _, _, rfl, _⟩ := h
    rfl
  · obtain ⟨x, t, h, hs, rfl, ht, hh, q1, q2⟩ := h
    refine ⟨_, (pss_one (ps_ret (pe_and (pe_callB (isiK (K := K) rfl) (by rfl) T.z_isinstance (by decide +kernel) (pa_cons (pv 0) (pa_cons (pe_bltn (v := .ty "list") (by rfl) T.z_list (by decide +kernel) rfl) pa_nil))) (pe_and (pe_cmpR op_le (pe_callB (lenK (K := K) rfl) (by rfl) T.z_len (by decide +kernel) (pa_cons (pv 0) pa_nil)) (pe_glob (v := .int (12)) rfl T.v_MOST_LINKS ⟨_, rfl⟩) (nomark _)) (pe_one (pe_callB (allK (K := K) rfl rfl) (by rfl) T.z_all (by decide +kernel) (pa_cons (pe_lc (own := [("thing", 2)]) (g := (gName 2)) (tt := tYes) rfl sc__are_links.nd (iListK (K := K) rfl (pv 0)) (blkOk_by (N := n__are_links) (sc := defScope s__are_links) (by decide +kernel)) (fun _ _ _ _ _ => (pg_name (i := 2) sc__are_links.nd rfl (Or.inl rfl))) (fun _ _ _ _ _ => pts_nil) (fun _ _ _ _ _ => (pe_call G__is_link (hr.mono (by decide)) (by rfl) T.g__is_link T.F__is_link.kp T.b__is_link .nil pass0 (pa_cons (pv 2) (pa_cons (pv 1) pa_nil))))) pa_nil))))))), ?_⟩
    refine ⟨_, rfl, ?_⟩
    refine ⟨_, .ty "list", _, .type "list", _, rfl, .ty _, ht.ty, kit_ty (kit_all ht.mem).2.2.1, _, rfl, ?_⟩
    by_cases e : t = "list"
    · subst e
      obtain ⟨a, xs, ds, rfl, ha, hz, hds, q⟩ := q2 rfl
      have ldx : xs.length = ds.length := Paired.length hds
      refine iteT ?_
      -- len(things) <= MOST_LINKS
      refine ⟨_, rfl, a, _, rfl, .inl (SqL.of ha), _, 12, rfl, rfl, _, rfl, ?_⟩
      by_cases l2 : xs.length ≤ 12
      · rw [decide_eq_true (show (xs.length : Int) ≤ 12 by omega)]
        refine iteT ?_
        refine un_cb (un_cons ?_)
        refine go_L (el_map (ys := (ds.map (thingB hs)).map V.bl) (ev_var rfl) (SqL.of ha) (by omega) (by simp [ldx]) (fun _ => rfl) (fun i x y H1 e1 hx hy => ?_)) (fun p H1 hp e1 h1 => ?_)
        · obtain ⟨d, hd, hR⟩ := paired_at hds hx
          rw [List.map_map, List.getElem?_map, hd] at hy
          obtain rfl := Option.some.inj hy
          intro H2 e2 Q q
          have z := q H2 (Ex.refl _)
          have ee := e1.trans e2
          cases d with
          | none =>
            obtain ⟨t, hty, hne⟩ := hR
            exact ⟨_, rfl, _, rfl, x, t, h, hs, rfl, hty.ext ee, ee _ _ hh, fun _ => z, fun e => absurd e hne⟩
          | some ys =>
            obtain ⟨b, rfl, hb, hbl, hby⟩ := hR
            exact ⟨_, rfl, _, rfl, .ref b, "tuple", h, hs, rfl, .tup (ee _ _ hb), ee _ _ hh, fun e => absurd rfl e, fun _ => ⟨b, ys, rfl, ee _ _ hb, hbl, fun y hy => let ⟨ty, k⟩ := hby y hy; ⟨ty, k.ext ee⟩, fun H3 e3 => q H3 e3⟩⟩
        · refine ⟨p, ds.map (thingB hs), rfl, SqL.of h1, ?_⟩
          have z := q H1 e1
          have eall : (ds.map (thingB hs)).all id = linksB hs ds := by
            unfold linksB
            rw [decide_eq_true (show ds.length ≤ 12 by omega), Bool.true_and, List.all_map]
            rfl
          rw [eall]
          exact z
      · rw [decide_eq_false (show ¬ (xs.length : Int) ≤ 12 by omega)]
        refine iteF ?_
        have z := q H (Ex.refl _)
        have ez : linksB hs ds = false := by
          unfold linksB
          rw [decide_eq_false (show ¬ ds.length ≤ 12 by omega), Bool.false_and]
        rw [ez] at z
        exact z
    · have eb : (t == "list") = false := beq_eq_false_iff_ne.mpr e
      rw [eb]
      exact iteF (q1 e)
end
/-! ### a net -/
def nf (h r l : Addr) : List (Str × V) := putF "_links" (.ref l) (putF "_rising" (.ref r) (putF "_handed" (.ref h) []))
theorem hr_ : ¬ (("_handed" : Str) = "_rising") := by decide +kernel
theorem hl_ : ¬ (("_handed" : Str) = "_links") := by decide +kernel
theorem rl_ : ¬ (("_rising" : Str) = "_links") := by decide +kernel
theorem nf_h (h r l : Addr) : (nf h r l).lookup ("_handed" : Str) = some (.ref h) := by
  unfold nf
  rw [lookup_putF, if_neg hl_, lookup_putF, if_neg hr_, lookup_putF, if_pos rfl]
theorem nf_r (h r l : Addr) : (nf h r l).lookup ("_rising" : Str) = some (.ref r) := by
  unfold nf
  rw [lookup_putF, if_neg rl_, lookup_putF, if_pos rfl]
theorem nf_l (h r l : Addr) : (nf h r l).lookup ("_links" : Str) = some (.ref l) := by
  unfold nf
  rw [lookup_putF, if_pos rfl]
theorem nf_no (h r l : Addr) {m : Str} (h1 : ¬ m = "_links") (h2 : ¬ m = "_rising") (h3 : ¬ m = "_handed") : (nf h r l).lookup m = none := by
  unfold nf
  rw [lookup_putF, if_neg h1, lookup_putF, if_neg h2, lookup_putF, if_neg h3]
  rfl
structure NetAt (C : Addr) (B : Hp) (n : Addr) (ps qs : List Int) (rs : List Row) : Prop where
  ex : ∃ dx h r l ts, B n = some (.ins C dx (nf h r l)) ∧ B h = some (.lst (ps.map V.int)) ∧ B r = some (.lst (qs.map V.int)) ∧ B l = some (.lst ts) ∧ RowsAt B ts rs
  pm : qs.Perm ps
  so : qs.Pairwise (· ≤ ·)
theorem halls_ok {ps : List Int} (h : Places ps) : hallsB (ps.map V.int) = true := by
  unfold hallsB
  rw [List.length_map, decide_eq_true h.l0, decide_eq_true h.l1, decide_eq_true (nodup_ints.mpr h.nd)]
  rw [Bool.true_and, Bool.true_and, Bool.and_true, List.all_map, List.all_eq_true]
  intro x hx
  obtain ⟨h0, h1⟩ := h.bd x hx
  show (decide (0 ≤ x) && decide (x ≤ 999)) = true
  rw [decide_eq_true h0, decide_eq_true h1]
  rfl
theorem links_ok {ps : List Int} {rs : List Row} (h : Roads ps rs) : linksB ps (rs.map fun r => some (rowV r)) = true := by
  unfold linksB
  rw [List.length_map, decide_eq_true h.len, Bool.true_and, List.all_map, List.all_eq_true]
  intro r hr
  have k := h.ok r hr
  show (decide (r.1 ∈ ps) && (decide (r.2.1 ∈ ps) && (!decide (r.1 = r.2.1) && (decide (1 ≤ r.2.2) && decide (r.2.2 ≤ 30))))) = true
  rw [decide_eq_true k.m1, decide_eq_true k.m2, decide_eq_false k.ne, decide_eq_true k.c0, decide_eq_true k.c1]
  rfl
theorem row_int {r : Row} {y : V} (h : y ∈ rowV r) : ∃ i, y = .int i := by
  simp only [rowV, List.mem_cons, List.not_mem_nil, or_false] at h
  rcases h with rfl | rfl | rfl <;> exact ⟨_, rfl⟩
theorem rows_things {B H : Hp} (e : Ex B H) : ∀ {ts : List V} {rs : List Row}, RowsAt B ts rs → ThingsAt H ts (rs.map fun r => some (rowV r))
  | _, _, .nil => .nil
  | _, _, .cons ⟨a, h1, h2⟩ t => .cons ⟨a, h1, e _ _ h2, by show 3 ≤ 1000; decide, fun y hy => by
      obtain ⟨i, rfl⟩ := row_int hy
      exact ⟨"int", .int i⟩⟩ (rows_things e t)
def sp_init (C : Addr) : Sp := fun vs H Q _ => ∃ (dx n a b : Addr) (ps : List Int) (ts : List V) (rs : List Row) (B : Hp), vs = [.ref n, .ref a, .ref b] ∧ H n = some (.ins C dx []) ∧ Ex B H ∧ B n = none ∧ H a = some (.lst (ps.map V.int)) ∧ H b = some (.lst ts) ∧
  Places ps ∧ Roads ps rs ∧ RowsAt B ts rs ∧ ∀ (H' : Hp) (h r l : Addr) (qs : List Int), (∀ x o, x ≠ n → H x = some o → H' x = some o) → H h = none → H r = none → H l = none → H' n = some (.ins C dx (nf h r l)) → H' h = some (.lst (ps.map V.int)) →
    H' r = some (.lst (qs.map V.int)) → qs.Perm ps → qs.Pairwise (· ≤ ·) → H' l = some (.lst ts) → Q .non H'
section
variable {P : Program} {w : World} {K : PySem.W.Frag} {mg : Str → Option Value} {base : Heap}
theorem ok_init (T : Tx K mg) : FnOk P w K mg base CX0 4 T.a_Net___init__ T.d_Net___init__ ["self", "halls", "links"] (sp_init T.c_Net) := by
  have G__are_halls := ok_areh (P := P) (w := w) (base := base) T
  have G__are_links := ok_arel (P := P) (w := w) (base := base) T
  refine T.F_Net___init__.ok sc_Net___init__ (fun vs H Q E h => ?_) (fun cdv A outer s H vs Q E hr h => ?_)
  · obtain ⟨_, _, _, _, _, _, _, _, rfl, _⟩ := h
    rfl
  · obtain ⟨dx, n, a, b, ps, ts, rs, B, rfl, hn, eB, nB, ha, hb, hP, hR, hrs, q⟩ := h
    refine ⟨_, (pss_cons (ps_if (pt_not (pt_val (pe_call G__are_halls (hr.mono (by decide)) (by rfl) T.g__are_halls T.F__are_halls.kp T.b__are_halls .nil pass0 (pa_cons (pv 1) pa_nil)))) (pss_one ps_never) pss_nil)
  (pss_cons (ps_if (pt_not (pt_val (pe_call G__are_links (hr.mono (by decide)) (by rfl) T.g__are_links T.F__are_links.kp T.b__are_links .nil pass0 (pa_cons (pv 2) (pa_cons (pv 1) pa_nil))))) (pss_one ps_never) pss_nil)
  (pss_cons (ps_fld (pv 0) (pe_callTy (listK (K := K) rfl) (by rfl) T.z_list (by decide +kernel) (pa_cons (pv 1) pa_nil)) rfl)
  (pss_cons (ps_fld (pv 0) (pe_callB (sortedK (K := K) rfl) (by rfl) T.z_sorted (by decide +kernel) (pa_cons (pv 1) pa_nil)) rfl)
  (pss_one (ps_fld (pv 0) (pe_callTy (listK (K := K) rfl) (by rfl) T.z_list (by decide +kernel) (pa_cons (pv 2) pa_nil)) rfl)))))), ?_⟩
    have lts := hrs.len
    refine ⟨_, rfl, .ref a, "list", rfl, .lst ha, fun e => absurd rfl e, fun _ => ⟨a, _, rfl, ha, by rw [List.length_map]; have := hP.l1; omega, fun y hy => ?_, fun H1 e1 => ⟨_, rfl, ?_⟩⟩⟩
    · obtain ⟨i, _, rfl⟩ := List.mem_map.mp hy
      exact ⟨"int", .int i⟩
    rw [halls_ok hP]
    refine iteF ?_
    refine ⟨_, rfl, _, rfl, .ref b, "list", a, ps, rfl, .lst (e1 _ _ hb), e1 _ _ ha, fun e => absurd rfl e, fun _ => ⟨b, ts, _, rfl, e1 _ _ hb, by have := hR.len; omega, rows_things (eB.trans e1) hrs, fun H2 e2 => ⟨_, rfl, ?_⟩⟩⟩
    rw [links_ok hR]
    refine iteF ?_
    have e12 := e1.trans e2
    have n2 := e12 _ _ hn
    -- self._handed = list(halls)
    refine ⟨_, rfl, a, _, rfl, .inl (SqL.of (e12 _ _ ha)), fun h hh => ?_⟩
    have nh := ne_of_none n2 hh
    refine ⟨_, rfl, n, T.c_Net, dx, [], rfl, (by rw [upd_ne nh]; exact n2), T.cl_Net, T.n_Net__handed, (by show 0 < 1000; decide), ?_⟩
    -- self._rising = sorted(halls)
    have na : a ≠ n := ne_of ha hn (by intro z; cases z)
    have nah := ne_of_none (e12 _ _ ha) hh
    refine ⟨_, rfl, a, ps, rfl, SqL.of (by rw [upd_ne na, upd_ne nah]; exact e12 _ _ ha), by have := hP.l1; omega, fun qs r hp hso hr' => ?_⟩
    have nrn : r ≠ n := fun z => by rw [z, upd_same] at hr'; cases hr'
    have nrh : r ≠ h := fun z => by rw [z, upd_ne nh.symm, upd_same] at hr'; cases hr'
    have hr0 : H2 r = none := by rw [upd_ne nrn, upd_ne nrh] at hr'; exact hr'
    refine ⟨_, rfl, n, T.c_Net, dx, _, rfl, Eq.trans (upd_ne nrn.symm) upd_same, T.cl_Net, T.n_Net__rising, (by show 1 < 1000; decide), ?_⟩
    -- self._links = list(links)
    have nb : b ≠ n := ne_of hb hn (by intro z; cases z)
    have nbh := ne_of_none (e12 _ _ hb) hh
    have nbr := ne_of_none (e12 _ _ hb) hr0
    refine ⟨_, rfl, b, ts, rfl, .inl (SqL.of (by rw [upd_ne nb, upd_ne nbr, upd_ne nb, upd_ne nbh]; exact e12 _ _ hb)), fun l hl => ?_⟩
    have nln : l ≠ n := fun z => by rw [z, upd_same] at hl; cases hl
    have nlr : l ≠ r := fun z => by rw [z, upd_ne nrn, upd_same] at hl; cases hl
    have nlh : l ≠ h := fun z => by rw [z, upd_ne nh.symm, upd_ne nrh.symm, upd_ne nh.symm, upd_same] at hl; cases hl
    have hl0 : H2 l = none := by rw [upd_ne nln, upd_ne nlr, upd_ne nln, upd_ne nlh] at hl; exact hl
    refine ⟨_, rfl, n, T.c_Net, dx, _, rfl, Eq.trans (upd_ne nln.symm) upd_same, T.cl_Net, T.n_Net__links, (by show 2 < 1000; decide), ?_⟩
    refine q _ h r l qs (fun x o hx e => ?_) (fresh_back e12 hh) (fresh_back e12 hr0) (fresh_back e12 hl0) upd_same ?_ ?_ hp hso ?_
    · have e2' := e12 _ _ e
      rw [upd_ne hx, upd_ne (ne_of_none e2' hl0), upd_ne hx, upd_ne (ne_of_none e2' hr0), upd_ne hx, upd_ne (ne_of_none e2' hh)]
      exact e2'
    · rw [upd_ne nh.symm, upd_ne nlh.symm, upd_ne nh.symm, upd_ne nrh.symm, upd_ne nh.symm, upd_same]
    · rw [upd_ne nrn, upd_ne nlr.symm, upd_ne nrn, upd_same]
    · rw [upd_ne nln, upd_same]
end
end K01

set_option maxHeartbeats 4000000
namespace K01
open PySem PySem.Spec PyProof.Rows L2 Evl MyG
/-! ### what many laws share: texts of data, nets made -/
/-- what can be shown -/
structure Shows (K : PySem.W.Frag) (H : Hp) (x : V) (d : PyData) : Prop where
  dp : Dp K H x d
  sh : d.showable = true
  nd : d.hasDict = false
  dt : d.depth ≤ 40
  ln : d.shown.length ≤ sizeLine
theorem Shows.of {K : PySem.W.Frag} {H : Hp} {x : V} {d : PyData} {k L : Nat} (h : Dp K H x d) (s : Small d k L) (hk : k ≤ 40 := by decide) (hL : L ≤ 16000000 := by decide) : Shows K H x d :=
  ⟨h, s.sh, s.nd, Nat.le_trans s.dp hk, Nat.le_trans (Nat.le_trans s.ln hL) (by rw [sizeLine_eq]; decide)⟩
theorem small_ints {ns : List Int} {N : Nat} (hl : ns.length ≤ N) (hb : ∀ x ∈ ns, x.natAbs < 10 ^ 9) : Small (.list (ns.map PyData.int)) 1 (N * 12 + 3) := by
  have h := small_list (k := 0) (L := 10) (ds := ns.map PyData.int) (fun d hd => by
    obtain ⟨x, hx, rfl⟩ := List.mem_map.mp hd
    exact small_int (hb x hx))
  refine h.mono (Nat.le_refl _) ?_
  rw [List.length_map]
  have := Nat.mul_le_mul_right 12 hl
  omega
theorem fork {te : TE} {σ : L2.St} {H : Hp} {Q : VK} (G : V → Hp → Prop) (h : ∀ K' : VK, (∀ x H', G x H' → K' x H') → te σ H K') (k : ∀ x H', G x H' → Q x H') : te σ H Q := h Q k
/-- a net that was made, and what it was made of, known behind -/
theorem net_made {s c : Addr} {B H3 H' : Hp} {C n dx h r l : Addr} {ps qs : List Int} {ts : List V} {rs : List Row} (W : Wd s c B H3) (hn : H3 n = none) (hdx : H3 dx = none)
    (frame : ∀ x o, x ≠ n → (upd (upd H3 dx (.own n)) n (.ins C dx [])) x = some o → H' x = some o) (hh : (upd (upd H3 dx (.own n)) n (.ins C dx [])) h = none) (hr : (upd (upd H3 dx (.own n)) n (.ins C dx [])) r = none) (hl : (upd (upd H3 dx (.own n)) n (.ins C dx [])) l = none)
    (e1 : H' n = some (.ins C dx (nf h r l))) (e2 : H' h = some (.lst (ps.map V.int))) (e3 : H' r = some (.lst (qs.map V.int))) (pm : qs.Perm ps) (so : qs.Pairwise (· ≤ ·)) (e4 : H' l = some (.lst ts)) (hrs : RowsAt B ts rs) :
    ∃ B3, Ex B B3 ∧ Wd s c B3 H' ∧ NetAt C B3 n ps qs rs ∧ (∀ x, B x = none → H3 x ≠ none → B3 x = none) ∧ Ex H3 H' := by
  have ne : ∀ {p : Addr}, (upd (upd H3 dx (.own n)) n (.ins C dx [])) p = none → p ≠ n ∧ H3 p = none := fun {p} hp => by
    have h1 : p ≠ n := fun z => by rw [z, upd_same] at hp; cases hp
    have h2 : p ≠ dx := fun z => by rw [upd_ne h1, z, upd_same] at hp; cases hp
    rw [upd_ne h1, upd_ne h2] at hp
    exact ⟨h1, hp⟩
  have exH : Ex H3 H' := fun x o e => frame x o (ne_of_none e hn) (by rw [upd_ne (ne_of_none e hn), upd_ne (ne_of_none e hdx)]; exact e)
  obtain ⟨hn1, h3⟩ := ne hh
  obtain ⟨rn1, r3⟩ := ne hr
  obtain ⟨ln1, l3⟩ := ne hl
  have W1 := W.ext exH
  have stn : ∀ {p : Addr}, H3 p = none → p ≠ s ∧ p ≠ c := fun hp => ⟨W.st.ne_s hp, W.st.ne_c hp⟩
  have W2 := W1.know e2 (stn h3).1 (stn h3).2
  have W3 := W2.know e3 (stn r3).1 (stn r3).2
  have W4 := W3.know e4 (stn l3).1 (stn l3).2
  have W5 := W4.know e1 (stn hn).1 (stn hn).2
  have step : ∀ {B : Hp} {p : Addr} {o : HO}, H' p = some o → Ex B H' → Ex B (upd B p o) := fun {B p o} hp eB a u ea => by
    by_cases z : a = p
    · rw [z, upd_same, ← hp, ← z]
      exact eB a u ea
    · rw [upd_ne z]; exact ea
  have eB := (step e2 W1.ex).trans ((step e3 W2.ex).trans ((step e4 W3.ex).trans (step e1 W4.ex)))
  refine ⟨_, eB, W5, ⟨⟨dx, h, r, l, ts, upd_same, ?_, ?_, ?_, hrs.mono eB⟩, pm, so⟩, fun x hx hk => ?_, exH⟩
  · have := W5.ex
    cases q : (upd (upd (upd (upd B h (.lst (ps.map V.int))) r (.lst (qs.map V.int))) l (.lst ts)) n (.ins C dx (nf h r l))) h with
    | some o => rw [← this _ _ q]; exact e2
    | none =>
      exfalso
      by_cases z1 : h = n
      · rw [z1, upd_same] at q; cases q
      by_cases z2 : h = l
      · rw [upd_ne z1, z2, upd_same] at q; cases q
      by_cases z3 : h = r
      · rw [upd_ne z1, upd_ne z2, z3, upd_same] at q; cases q
      · rw [upd_ne z1, upd_ne z2, upd_ne z3, upd_same] at q; cases q
  · have := W5.ex
    cases q : (upd (upd (upd (upd B h (.lst (ps.map V.int))) r (.lst (qs.map V.int))) l (.lst ts)) n (.ins C dx (nf h r l))) r with
    | some o => rw [← this _ _ q]; exact e3
    | none =>
      exfalso
      by_cases z1 : r = n
      · rw [z1, upd_same] at q; cases q
      by_cases z2 : r = l
      · rw [upd_ne z1, z2, upd_same] at q; cases q
      · rw [upd_ne z1, upd_ne z2, upd_same] at q; cases q
  · have := W5.ex
    cases q : (upd (upd (upd (upd B h (.lst (ps.map V.int))) r (.lst (qs.map V.int))) l (.lst ts)) n (.ins C dx (nf h r l))) l with
    | some o => rw [← this _ _ q]; exact e4
    | none =>
      exfalso
      by_cases z1 : l = n
      · rw [z1, upd_same] at q; cases q
      · rw [upd_ne z1, upd_same] at q; cases q
  · have nx : ∀ {p : Addr}, H3 p = none → x ≠ p := fun hp z => hk (by rw [z]; exact hp)
    rw [upd_ne (nx hn), upd_ne (nx l3), upd_ne (nx r3), upd_ne (nx h3)]
    exact hx
def rowD (r : Row) : PyData := .tuple [.int r.1, .int r.2.1, .int r.2.2]
theorem dp_rows {K : PySem.W.Frag} {B : Hp} : ∀ {ts : List V} {rs : List Row}, RowsAt B ts rs → DpAll K B ts (rs.map rowD)
  | _, _, .nil => .nil
  | _, _, .cons ⟨a, h1, h2⟩ t => .cons (by rw [h1]; exact .tup (SqT.of h2) (.cons (.int _) (.cons (.int _) (.cons (.int _) .nil)))) (dp_rows t)
theorem small_row {ps : List Int} {r : Row} (hP : Places ps) (h : RoadOk ps r) : Small (rowD r) 1 39 := by
  have b1 := hP.bd _ h.m1
  have b2 := hP.bd _ h.m2
  have c0 := h.c0
  have c1 := h.c1
  have k := small_tuple (k := 0) (L := 10) (ds := [.int r.1, .int r.2.1, .int r.2.2]) (fun d hd => by
    simp only [List.mem_cons, List.not_mem_nil, or_false] at hd
    rcases hd with rfl | rfl | rfl <;> exact small_int (by omega))
  exact k
theorem small_rows {ps : List Int} {rs : List Row} (hP : Places ps) (hR : Roads ps rs) : Small (.list (rs.map rowD)) 2 (12 * 41 + 3) := by
  have h := small_list (k := 1) (L := 39) (ds := rs.map rowD) (fun d hd => by
    obtain ⟨r, hr, rfl⟩ := List.mem_map.mp hd
    exact small_row hP (hR.ok r hr))
  refine h.mono (Nat.le_refl _) ?_
  rw [List.length_map]
  have := Nat.mul_le_mul_right 41 hR.len
  omega
def sp_law (K : PySem.W.Frag) : Sp := fun vs H Q _ => ∃ (a : Addr) (ns : List Int), vs = [.ref a] ∧ SqL K H a (ns.map V.int) ∧ ns.length ≤ 63 ∧ ∀ H', Q (.bl true) H'
theorem law_start (K : PySem.W.Frag) (H : Hp) (a : Addr) (ns : List Int) (hl : ns.length ≤ 63) (hS : SqL K H a (ns.map V.int)) : sp_law K [.ref a] H (fun v _ => v = .bl true) fun _ _ _ => False := ⟨a, ns, rfl, hS, hl, fun _ => rfl⟩
theorem rows_at {B : Hp} {ts : List V} {rs : List Row} {k : Nat} {r : Row} (h : RowsAt B ts rs) (hr : rs[k]? = some r) : ∃ a, ts[k]? = some (.ref a) ∧ B a = some (.tup (rowV r)) := by
  have hl := h.len
  have hk : k < ts.length := by
    have := (List.getElem?_eq_some_iff.mp hr).1
    omega
  obtain ⟨y, h1, a, h2, h3⟩ := paired_at h (List.getElem?_eq_getElem hk)
  rw [hr] at h1
  obtain rfl := Option.some.inj h1
  exact ⟨a, by rw [List.getElem?_eq_getElem hk, h2], h3⟩
end K01

set_option maxHeartbeats 2000000
namespace K01
open PySem PySem.Spec PyProof.Rows L2 Evl MyG
def sp_nhalls (C : Addr) : Sp := fun vs H Q _ => ∃ (n : Addr) (B : Hp) (ps qs : List Int) (rs : List Row), vs = [.ref n] ∧ Ex B H ∧ NetAt C B n ps qs rs ∧ ∀ p H', H p = none → H' = upd H p (.lst (qs.map V.int)) → Q (.ref p) H'
def sp_nlinks (C : Addr) : Sp := fun vs H Q _ => ∃ (n : Addr) (B : Hp) (ps qs : List Int) (rs : List Row), vs = [.ref n] ∧ Ex B H ∧ NetAt C B n ps qs rs ∧ ∀ p H' ts, H p = none → RowsAt B ts rs → H' = upd H p (.lst ts) → Q (.ref p) H'
def sp_nmost (C : Addr) : Sp := fun vs H Q _ => ∃ (n : Addr) (B : Hp) (ps qs : List Int) (rs : List Row), vs = [.ref n] ∧ Ex B H ∧ NetAt C B n ps qs rs ∧ rs.length ≤ 1000 ∧ ∀ H', Ex H H' → Q (.int (rs.map (·.2.2)).sum) H'
def sp_nlink (C : Addr) : Sp := fun vs H Q _ => ∃ (n : Addr) (B : Hp) (ps qs : List Int) (rs : List Row) (k : Nat) (r : Row), vs = [.ref n, .int (k : Int)] ∧ Ex B H ∧ NetAt C B n ps qs rs ∧ rs[k]? = some r ∧ rs.length ≤ 12 ∧ ∀ a H', Ex H H' → B a = some (.tup (rowV r)) → Q (.ref a) H'
def sp_ncost (C : Addr) : Sp := fun vs H Q _ => ∃ (n : Addr) (B : Hp) (ps qs : List Int) (rs : List Row) (k : Nat) (r : Row), vs = [.ref n, .int (k : Int)] ∧ Ex B H ∧ NetAt C B n ps qs rs ∧ rs[k]? = some r ∧ rs.length ≤ 12 ∧ ∀ H', Ex H H' → Q (.int r.2.2) H'
def sp_nbeyond (C : Addr) : Sp := fun vs H Q _ => ∃ (n : Addr) (B : Hp) (ps qs : List Int) (rs : List Row) (k : Nat) (r : Row) (h : Int), vs = [.ref n, .int (k : Int), .int h] ∧ Ex B H ∧ NetAt C B n ps qs rs ∧ rs[k]? = some r ∧ rs.length ≤ 12 ∧
  (h = r.1 ∨ h = r.2.1) ∧ ∀ H', Ex H H' → Q (.int (if h = r.1 then r.2.1 else r.1)) H'
def touch (rs : List Row) (h : Int) (k : Nat) : Bool := match rs[k]? with
  | some r => decide (r.1 = h) || decide (r.2.1 = h)
  | none => false
def doorsOf (rs : List Row) (h : Int) : List V := given rs.length (touch rs h) (fun k => .int (k : Nat))
def sp_ndoors (C : Addr) : Sp := fun vs H Q _ => ∃ (n : Addr) (B : Hp) (ps qs : List Int) (rs : List Row) (h : Int), vs = [.ref n, .int h] ∧ Ex B H ∧ NetAt C B n ps qs rs ∧ h ∈ qs ∧ rs.length ≤ 12 ∧ ∀ p H', H p = none → Ex H H' → H' p = some (.lst (doorsOf rs h)) → Q (.ref p) H'
section
variable {P : Program} {w : World} {K : PySem.W.Frag} {mg : Str → Option Value} {base : Heap}
theorem ok_nhalls (T : Tx K mg) : FnOk P w K mg base CX0 1 T.a_Net_halls T.d_Net_halls ["self"] (sp_nhalls T.c_Net) := by
  refine T.F_Net_halls.ok sc_Net_halls (fun vs H Q E h => ?_) (fun cdv A outer s H vs Q E hr h => ?_)
  · obtain ⟨_, _, _, _, _, rfl, _⟩ := h
    rfl
  · obtain ⟨n, B, ps, qs, rs, rfl, eB, hN, q⟩ := h
    refine ⟨_, (pss_one (ps_ret (pe_callTy (listK (K := K) rfl) (by rfl) T.z_list (by decide +kernel) (pa_cons (fldK (K := K) rfl (pv 0) rfl) pa_nil)))), ?_⟩
    obtain ⟨dx, h, r, l, ts, hn, hh, hr1, hl, hrs⟩ := hN.ex
    refine ⟨_, rfl, n, T.c_Net, dx, _, _, rfl, eB _ _ hn, T.cl_Net, T.n_Net__rising, nf_r _ _ _, r, _, rfl, .inl (SqL.of (eB _ _ hr1)), fun p hp => q p _ hp rfl⟩
theorem ok_nlinks (T : Tx K mg) : FnOk P w K mg base CX0 1 T.a_Net_links T.d_Net_links ["self"] (sp_nlinks T.c_Net) := by
  refine T.F_Net_links.ok sc_Net_links (fun vs H Q E h => ?_) (fun cdv A outer s H vs Q E hr h => ?_)
  · obtain ⟨_, _, _, _, _, rfl, _⟩ := h
    rfl
  · obtain ⟨n, B, ps, qs, rs, rfl, eB, hN, q⟩ := h
    refine ⟨_, (pss_one (ps_ret (pe_callTy (listK (K := K) rfl) (by rfl) T.z_list (by decide +kernel) (pa_cons (fldK (K := K) rfl (pv 0) rfl) pa_nil)))), ?_⟩
    obtain ⟨dx, h, r, l, ts, hn, hh, hr1, hl, hrs⟩ := hN.ex
    refine ⟨_, rfl, n, T.c_Net, dx, _, _, rfl, eB _ _ hn, T.cl_Net, T.n_Net__links, nf_l _ _ _, l, _, rfl, .inl (SqL.of (eB _ _ hl)), fun p hp => q p _ ts hp hrs rfl⟩
theorem ok_nmost (T : Tx K mg) : FnOk P w K mg base CX0 1 T.a_Net_most T.d_Net_most ["self"] (sp_nmost T.c_Net) := by
  refine T.F_Net_most.ok sc_Net_most (fun vs H Q E h => ?_) (fun cdv A outer s H vs Q E hr h => ?_)
  · obtain ⟨_, _, _, _, _, rfl, _⟩ := h
    rfl
  · obtain ⟨n, B, ps, qs, rs, rfl, eB, hN, h12, q⟩ := h
    refine ⟨_, (pss_one (ps_ret (pe_callB (sumK (K := K) rfl rfl) (by rfl) T.z_sum (by decide +kernel) (pa_cons (pe_lc (own := [("link", 1)]) (g := (gName 1)) (tt := tYes) rfl sc_Net_most.nd (iListK (K := K) rfl (fldK (K := K) rfl (pv 0) rfl)) (blkOk_by (N := n_Net_most) (sc := defScope s_Net_most) (by decide +kernel)) (fun _ _ _ _ _ => (pg_name (i := 1) sc_Net_most.nd rfl (Or.inl rfl))) (fun _ _ _ _ _ => pts_nil) (fun _ _ _ _ _ => (pe_ix (ix_tupK (K := K) rfl) (pv 1) pe_int (fun _ _ => rfl)))) pa_nil)))), ?_⟩
    obtain ⟨dx, h, r, l, ts, hn, hh, hr1, hl, hrs⟩ := hN.ex
    have hlen := hrs.len
    have h12 : rs.length ≤ 1000 := h12
    refine un_ret (un_cb (un_cons ?_))
    refine go_L (el_map (a := l) (xs := ts) (ys := (rs.map (·.2.2)).map V.int) (fun H1 e1 Q q => ⟨_, rfl, n, T.c_Net, dx, _, _, rfl, e1 _ _ (eB _ _ hn), T.cl_Net, T.n_Net__links, nf_l _ _ _, q _ (Ex.refl _)⟩) (SqL.of (eB _ _ hl)) (by omega) (by simp [hlen]) (fun _ => rfl) (fun i x y H1 e1 hx hy => ?_)) (fun p H1 hp e1 h1 => ?_)
    · obtain ⟨r0, hr0, a, rfl, ha⟩ := paired_at hrs hx
      rw [List.map_map, List.getElem?_map, hr0] at hy
      obtain rfl := Option.some.inj hy
      exact fun H2 e2 Q q => ⟨_, rfl, a, _, 2, _, rfl, rfl, SqT.of (e2 _ _ (e1 _ _ (eB _ _ ha))), atI_nat (j := 2) rfl, q _ (Ex.refl _)⟩
    · exact ⟨p, _, rfl, SqL.of h1, q H1 e1⟩
theorem ok_nlink (T : Tx K mg) : FnOk P w K mg base CX0 2 T.a_Net__link T.d_Net__link ["self", "link"] (sp_nlink T.c_Net) := by
  have G_is_number := ok_isnum (P := P) (w := w) (base := base) T
  refine T.F_Net__link.ok sc_Net__link (fun vs H Q E h => ?_) (fun cdv A outer s H vs Q E hr h => ?_)
  · obtain ⟨_, _, _, _, _, _, _, rfl, _⟩ := h
    rfl
  · obtain ⟨n, B, ps, qs, rs, k, r, rfl, eB, hN, hk, h12, q⟩ := h
    refine ⟨_, (pss_cons (ps_if (PW.pt (pw_or (pt_not (pt_val (pe_call G_is_number (hr.mono (by decide)) (by rfl) T.g_is_number T.F_is_number.kp T.b_is_number .nil pass0 (pa_cons (pv 1) pa_nil)))) (pw_or1 (pt_not (pt_chain op_le op_lt pe_int (pv 1) (pe_callB (lenK (K := K) rfl) (by rfl) T.z_len (by decide +kernel) (pa_cons (fldK (K := K) rfl (pv 0) rfl) pa_nil))))))) (pss_one ps_never) pss_nil)
  (pss_one (ps_ret (pe_ix (ix_listK (K := K) rfl) (fldK (K := K) rfl (pv 0) rfl) (pv 1) (fun _ _ => rfl))))), ?_⟩
    obtain ⟨dx, h, r', l, ts, hn, hh, hr1, hl, hrs⟩ := hN.ex
    have hlen := hrs.len
    have hk1 := (List.getElem?_eq_some_iff.mp hk).1
    obtain ⟨a, ha1, ha2⟩ := rows_at hrs hk
    -- not is_number(link) or not 0 <= link < len(self._links)
    refine ⟨_, rfl, _, "int", rfl, .int _, _, rfl, ?_⟩
    refine iteF ⟨_, rfl, 0, k, rfl, rfl, _, rfl, ?_⟩
    rw [decide_eq_true (show (0 : Int) ≤ (k : Int) by omega)]
    refine iteT ⟨_, rfl, n, T.c_Net, dx, _, _, rfl, eB _ _ hn, T.cl_Net, T.n_Net__links, nf_l _ _ _, l, _, rfl, .inl (SqL.of (eB _ _ hl)), k, _, rfl, rfl, _, rfl, ?_⟩
    rw [decide_eq_true (show (k : Int) < (ts.length : Int) by omega)]
    refine iteF ?_
    refine ⟨_, rfl, n, T.c_Net, dx, _, _, rfl, eB _ _ hn, T.cl_Net, T.n_Net__links, nf_l _ _ _, _, rfl, l, _, k, _, rfl, rfl, SqL.of (eB _ _ hl), atI_nat ha1, q a _ (Ex.refl _) ha2⟩
theorem ok_ncost (T : Tx K mg) : FnOk P w K mg base CX0 3 T.a_Net_cost T.d_Net_cost ["self", "link"] (sp_ncost T.c_Net) := by
  have G_Net__link := ok_nlink (P := P) (w := w) (base := base) T
  refine T.F_Net_cost.ok sc_Net_cost (fun vs H Q E h => ?_) (fun cdv A outer s H vs Q E hr h => ?_)
  · obtain ⟨_, _, _, _, _, _, _, rfl, _⟩ := h
    rfl
  · obtain ⟨n, B, ps, qs, rs, k, r, rfl, eB, hN, hk, h12, q⟩ := h
    refine ⟨_, (pss_one (ps_ret (pe_ix (ix_tupK (K := K) rfl) (pe_meth (pv 0) T.cl_Net T.me_Net__link G_Net__link (hr.mono (by decide)) T.b_Net__link .nil pass0 (pa_cons (pv 1) pa_nil)) pe_int (fun _ _ => rfl)))), ?_⟩
    obtain ⟨dx, h, r', l, ts, hn, hh, hr1, hl, hrs⟩ := id hN.ex
    refine ⟨_, rfl, n, dx, _, rfl, eB _ _ hn, nf_no _ _ _ (by decide +kernel) (by decide +kernel) (by decide +kernel), _, rfl, n, B, ps, qs, rs, k, r, rfl, eB, hN, hk, h12, fun a H' e ha => ?_⟩
    exact ⟨a, _, 2, _, rfl, rfl, SqT.of (e _ _ (eB _ _ ha)), atI_nat (j := 2) rfl, q H' e⟩
theorem ok_nbeyond (T : Tx K mg) : FnOk P w K mg base CX0 3 T.a_Net_beyond T.d_Net_beyond ["self", "link", "hall"] (sp_nbeyond T.c_Net) := by
  have G_Net__link := ok_nlink (P := P) (w := w) (base := base) T
  have G_is_number := ok_isnum (P := P) (w := w) (base := base) T
  refine T.F_Net_beyond.ok sc_Net_beyond (fun vs H Q E h => ?_) (fun cdv A outer s H vs Q E hr h => ?_)
  · obtain ⟨_, _, _, _, _, _, _, _, rfl, _⟩ := h
    rfl
  · obtain ⟨n, B, ps, qs, rs, k, r, h, rfl, eB, hN, hk, h12, hor, q⟩ := h
    refine ⟨_, (pss_cons (ps_asg (pe_meth (pv 0) T.cl_Net T.me_Net__link G_Net__link (hr.mono (by decide)) T.b_Net__link .nil pass0 (pa_cons (pv 1) pa_nil)) (pg_tup rfl (pgs_cons (pg_name (i := 3) sc_Net_beyond.nd rfl (Or.inl rfl)) (pgs_cons (pg_name (i := 4) sc_Net_beyond.nd rfl (Or.inl rfl)) (pgs_cons (pg_name (i := 5) sc_Net_beyond.nd rfl (Or.inl rfl)) pgs_nil)))))
  (pss_cons (ps_if (PW.pt (pw_or (pt_not (pt_val (pe_call G_is_number (hr.mono (by decide)) (by rfl) T.g_is_number T.F_is_number.kp T.b_is_number .nil pass0 (pa_cons (pv 2) pa_nil)))) (pw_or1 (pt_cmpR (op_niK (K := K) rfl) (pv 2) (pe_tup (pa_cons (pv 3) (pa_cons (pv 4) pa_nil))) (by rfl))))) (pss_one ps_never) pss_nil)
  (pss_one (ps_ret (pe_ifExp (pt_cmpR op_eq (pv 2) (pv 3) (nomark _)) (pv 4) (pv 3)))))), ?_⟩
    obtain ⟨dx, hx, r', l, ts, hn, hh, hr1, hl, hrs⟩ := id hN.ex
    refine ⟨_, rfl, n, dx, _, rfl, eB _ _ hn, nf_no _ _ _ (by decide +kernel) (by decide +kernel) (by decide +kernel), _, rfl, n, B, ps, qs, rs, k, r, rfl, eB, hN, hk, h12, fun a H1 e ha => ?_⟩
    refine ⟨a, _, rfl, SqT.of (e _ _ (eB _ _ ha)), rfl, _, _, rfl, _, _, rfl, _, _, rfl, rfl, ?_⟩
    -- not is_number(hall) or hall not in (one, other)
    refine ⟨_, rfl, _, "int", rfl, .int _, _, rfl, ?_⟩
    refine iteF ⟨_, rfl, _, rfl, _, rfl, by show 2 ≤ sizeLine; decide, fun p hp => ⟨p, _, rfl, .inr (SqT.of upd_same), rfl, rfl, _, rfl, ?_⟩⟩
    have ein : inV (.int h) [.int r.1, .int r.2.1] = true := by
      rw [show ([V.int r.1, .int r.2.1] : List V) = [r.1, r.2.1].map V.int from rfl, inV_ints]
      refine decide_eq_true ?_
      rcases hor with z | z <;> simp [z]
    rw [ein]
    refine iteF ?_
    have z := q _ (e.trans (Ex.new (o := .tup [.int r.1, .int r.2.1]) hp))
    refine ⟨_, rfl, _, rfl, rfl, _, rfl, ?_⟩
    have ed : decide (V.int h = V.int r.1) = decide (h = r.1) := decide_eq_decide.mpr ⟨fun e => V.int.inj e, fun e => by rw [e]⟩
    rw [ed]
    by_cases c : h = r.1
    · rw [decide_eq_true c]
      rw [if_pos c] at z
      exact iteT ⟨_, rfl, z⟩
    · rw [decide_eq_false c]
      rw [if_neg c] at z
      exact iteF ⟨_, rfl, z⟩
end
end K01

set_option maxHeartbeats 2000000
namespace K01
open PySem PySem.Spec PyProof.Rows L2 Evl MyG
/-! ### a comprehension over enumerate(list) -/
theorem lc_enum {K : PySem.W.Frag} {a : Addr} {xs : List V} {g : TG} {tt : TT} {te : TE} {vs : List Nat} {σ : L2.St} {H1 : Hp} {D : Addr} {Qd : Hp → Prop} (Pv : Nat → Hp → Prop) (h0 : Pv 0 (upd H1 D (.lst []))) (hl : ∀ i H, i ≤ xs.length → Pv i H → SqL K H a xs)
    (hs : ∀ i x T H, xs[i]? = some x → Pv i H → H T = none → g (.ref T) (wipe σ vs) (upd H T (.tup [.int (i : Nat), x])) fun σ2 H2 => wipe σ2 vs = wipe σ vs ∧ tt σ2 H2 fun b H3 =>
      if b = true then te σ2 H3 fun y H4 => ∃ acc, H4 D = some (.lst acc) ∧ acc.length < sizeLine ∧ Pv (i + 1) (upd H4 D (.lst (acc ++ [y]))) else Pv (i + 1) H3) (hd : ∀ H, Pv xs.length H → Qd H) :
    ∃ W : Nat → Nat → Hp → Prop, (∃ m, W 0 m (upd H1 D (.lst []))) ∧ ∀ i m H, W i m H →
      ((Ite K a).stop i H ∧ Qd H) ∨ ((Ite K a).go i H ∧ ∃ Nx : Hp → Prop, (∀ H', Nx H' → ∃ m', m' < m ∧ W (i + 1) m' H') ∧ ∀ x H', (Ite K a).yld i H x H' → g x (wipe σ vs) H' fun σ2 H2 => wipe σ2 vs = wipe σ vs ∧ tt σ2 H2 fun b H3 =>
        if b = true then te σ2 H3 fun y H4 => ∃ acc, H4 D = some (.lst acc) ∧ acc.length < sizeLine ∧ Nx (upd H4 D (.lst (acc ++ [y]))) else Nx H3) := by
  refine ⟨fun i m H => i + m = xs.length ∧ Pv i H, ⟨xs.length, Nat.zero_add _, h0⟩, fun i m H hw => ?_⟩
  obtain ⟨hm, p⟩ := hw
  have q := hl i H (by omega) p
  cases m with
  | zero =>
    have e : i = xs.length := by omega
    exact Or.inl ⟨⟨xs, q, by omega⟩, hd H (e ▸ p)⟩
  | succ m =>
    have hlt : i < xs.length := by omega
    refine Or.inr ⟨⟨xs, xs[i], q, List.getElem?_eq_getElem hlt⟩, Pv (i + 1), fun H' p' => ⟨m, by omega, by omega, p'⟩, ?_⟩
    rintro v H' ⟨U, x, rfl, hU, rfl, hx⟩
    exact hs i x U H (hx xs q) p hU
def sp_beyondL (K : PySem.W.Frag) : Sp := fun vs H Q _ => ∃ (a : Addr) (r : Row) (h : Int), vs = [.ref a, .int h] ∧ H a = some (.tup (rowV r)) ∧ Q (.int (if r.1 = h then r.2.1 else r.1)) H
section
variable {P : Program} {w : World} {K : PySem.W.Frag} {mg : Str → Option Value} {base : Heap}
theorem ok_ndoors (T : Tx K mg) : FnOk P w K mg base CX0 2 T.a_Net_doors T.d_Net_doors ["self", "hall"] (sp_ndoors T.c_Net) := by
  have G_is_number := ok_isnum (P := P) (w := w) (base := base) T
  refine T.F_Net_doors.ok sc_Net_doors (fun vs H Q E h => ?_) (fun cdv A outer s H vs Q E hr h => ?_)
  · obtain ⟨_, _, _, _, _, _, rfl, _⟩ := h
    rfl
  · obtain ⟨n, B, ps, qs, rs, h, rfl, eB, hN, hin, h12, q⟩ := h
    refine ⟨_, (pss_cons (ps_if (PW.pt (pw_or (pt_not (pt_val (pe_call G_is_number (hr.mono (by decide)) (by rfl) T.g_is_number T.F_is_number.kp T.b_is_number .nil pass0 (pa_cons (pv 1) pa_nil)))) (pw_or1 (pt_cmpR (op_niK (K := K) rfl) (pv 1) (fldK (K := K) rfl (pv 0) rfl) (by rfl))))) (pss_one ps_never) pss_nil)
  (pss_one (ps_ret (pe_lc (own := [("link", 2), ("one", 3), ("other", 4), ("_", 5)]) (g := (gTup K 2 (gCons (gName 2) (gCons (gTup K 3 (gCons (gName 3) (gCons (gName 4) (gCons (gName 5) gNil)))) gNil)))) rfl sc_Net_doors.nd (pi_enum (by rfl) T.z_enumerate (pa_cons (fldK (K := K) rfl (pv 0) rfl) pa_nil)) (blkOk_by (N := n_Net_doors) (sc := defScope s_Net_doors) (by decide +kernel)) (fun _ _ _ _ _ => (pg_tup rfl (pgs_cons (pg_name (i := 2) sc_Net_doors.nd rfl (Or.inl rfl)) (pgs_cons (pg_tup rfl (pgs_cons (pg_name (i := 3) sc_Net_doors.nd rfl (Or.inl rfl)) (pgs_cons (pg_name (i := 4) sc_Net_doors.nd rfl (Or.inl rfl)) (pgs_cons (pg_name (i := 5) sc_Net_doors.nd rfl (Or.inl rfl)) pgs_nil)))) pgs_nil)))) (fun _ _ _ _ _ => (pts_one (pt_cmpR (op_inK (K := K) rfl) (pv 1) (pe_tup (pa_cons (pv 3) (pa_cons (pv 4) pa_nil))) (by rfl)))) (fun _ _ _ _ _ => (pv 2)))))), ?_⟩
    obtain ⟨dx, hh, r', l, ts, hn, hh1, hr1, hl, hrs⟩ := id hN.ex
    have hlen := hrs.len
    -- not is_number(hall) or hall not in self._rising
    refine ⟨_, rfl, _, "int", rfl, .int _, _, rfl, ?_⟩
    refine iteF ⟨_, rfl, _, rfl, n, T.c_Net, dx, _, _, rfl, eB _ _ hn, T.cl_Net, T.n_Net__rising, nf_r _ _ _, r', _, rfl, .inl (SqL.of (eB _ _ hr1)), rfl, flat_ints qs, _, rfl, ?_⟩
    rw [inV_ints, decide_eq_true hin]
    refine iteF ?_
    -- the comprehension
    refine ⟨_, rfl, n, T.c_Net, dx, _, _, rfl, eB _ _ hn, T.cl_Net, T.n_Net__links, nf_l _ _ _, l, ts, rfl, SqL.of (eB _ _ hl), fun D hD => ?_⟩
    refine lc_enum (xs := ts) (fun i H' => Ex H H' ∧ H' D = some (.lst (given i (touch rs h) (fun k => .int (k : Nat))))) ⟨Ex.new hD, upd_same⟩ (fun i H' _ p => SqL.of (p.1 _ _ (eB _ _ hl))) (fun i x U H' hx p hU => ?_) (fun H' p => ?_)
    · obtain ⟨r, hr0, a, rfl, ha⟩ := paired_at hrs hx
      have hi := (List.getElem?_eq_some_iff.mp hr0).1
      have e1 := Ex.new (o := .tup [.int (i : Nat), .ref a]) hU
      have hD1 := e1 _ _ p.2
      have ha1 := e1 _ _ (p.1 _ _ (eB _ _ ha))
      refine ⟨U, _, rfl, SqT.of upd_same, rfl, _, _, rfl, _, _, rfl, ⟨a, _, rfl, SqT.of ha1, rfl, _, _, rfl, _, _, rfl, _, _, rfl, rfl, rfl, rfl, ?_⟩⟩
      -- hall in (one, other)
      refine ⟨_, rfl, _, rfl, _, rfl, by show 2 ≤ sizeLine; decide, fun u hu => ⟨u, _, rfl, .inr (SqT.of upd_same), rfl, rfl, _, rfl, ?_⟩⟩
      have e2 := Ex.new (o := .tup [.int r.1, .int r.2.1]) hu
      have hD2 := e2 _ _ hD1
      have ein : inV (.int h) [.int r.1, .int r.2.1] = touch rs h i := by
        rw [show ([V.int r.1, .int r.2.1] : List V) = [r.1, r.2.1].map V.int from rfl, inV_ints]
        unfold touch
        rw [hr0]
        show decide (h ∈ [r.1, r.2.1]) = (decide (r.1 = h) || decide (r.2.1 = h))
        by_cases c1 : r.1 = h
        · simp [c1]
        · by_cases c2 : r.2.1 = h
          · simp [c2]
          · have c1' : ¬ h = r.1 := fun e => c1 e.symm
            have c2' : ¬ h = r.2.1 := fun e => c2 e.symm
            simp [c1, c2, c1', c2']
      rw [ein]
      cases ht : touch rs h i with
      | true =>
        refine iteT ⟨_, rfl, _, hD2, ?_, (p.1.trans (e1.trans e2)).mut hD, ?_⟩
        · exact sz_lt (by have := given_len i (touch rs h) (fun k => V.int (k : Nat)); omega)
        · rw [given_yes ht]
          exact upd_same
      | false =>
        refine iteF ⟨p.1.trans (e1.trans e2), ?_⟩
        rw [given_no ht]
        exact hD2
    · refine q D H' hD p.1 ?_
      unfold doorsOf
      rw [← hlen]
      exact p.2
theorem ok_beyondL (T : Tx K mg) : FnOk P w K mg base CX0 1 T.a_l_beyond T.d_l_beyond ["_law_row", "_law_place"] (sp_beyondL K) := by
  refine T.F_l_beyond.ok sc_l_beyond (fun vs H Q E h => ?_) (fun cdv A outer s H vs Q E hr h => ?_)
  · obtain ⟨_, _, _, rfl, _⟩ := h
    rfl
  · obtain ⟨a, r, h, rfl, ha, q⟩ := h
    refine ⟨_, (pss_one (ps_ret (pe_ifExp (pt_cmpR op_eq (pe_ix (ix_tupK (K := K) rfl) (pv 0) pe_int (fun _ _ => rfl)) (pv 1) (nomark _)) (pe_ix (ix_tupK (K := K) rfl) (pv 0) pe_int (fun _ _ => rfl)) (pe_ix (ix_tupK (K := K) rfl) (pv 0) pe_int (fun _ _ => rfl))))), ?_⟩
    refine ⟨_, rfl, a, _, 0, _, rfl, rfl, SqT.of ha, atI_nat (j := 0) rfl, _, rfl, rfl, _, rfl, ?_⟩
    have ed : decide (V.int r.1 = V.int h) = decide (r.1 = h) := decide_eq_decide.mpr ⟨fun e => V.int.inj e, fun e => by rw [e]⟩
    rw [ed]
    by_cases c : r.1 = h
    · rw [decide_eq_true c]
      rw [if_pos c] at q
      exact iteT ⟨_, rfl, a, _, 1, _, rfl, rfl, SqT.of ha, atI_nat (j := 1) rfl, q⟩
    · rw [decide_eq_false c]
      rw [if_neg c] at q
      exact iteF ⟨_, rfl, a, _, 0, _, rfl, rfl, SqT.of ha, atI_nat (j := 0) rfl, q⟩
end
end K01

set_option maxHeartbeats 2000000
namespace K01
open PySem PySem.Spec PyProof.Rows L2 Evl MyG
def doorsI (rs : List Row) (h : Int) : List Int := ((List.range rs.length).filter (touch rs h)).map fun (k : Nat) => (k : Int)
theorem doors_eq (rs : List Row) (h : Int) : doorsOf rs h = (doorsI rs h).map V.int := by
  unfold doorsOf doorsI given
  rw [List.map_map]
  rfl
theorem doors_len (rs : List Row) (h : Int) : (doorsI rs h).length ≤ rs.length := by
  unfold doorsI
  rw [List.length_map]
  have := List.length_filter_le (touch rs h) (List.range rs.length)
  rw [List.length_range] at this
  exact this
theorem doors_mem {rs : List Row} {h x : Int} (hx : x ∈ doorsI rs h) : ∃ (k : Nat) (r : Row), x = (k : Int) ∧ rs[k]? = some r ∧ (h = r.1 ∨ h = r.2.1) := by
  unfold doorsI at hx
  obtain ⟨k, hk, rfl⟩ := List.mem_map.mp hx
  have h1 := (List.mem_filter.mp hk).2
  unfold touch at h1
  cases hr : rs[k]? with
  | none =>
    rw [hr] at h1
    cases h1
  | some r =>
    rw [hr] at h1
    have h2 : (decide (r.1 = h) || decide (r.2.1 = h)) = true := h1
    rw [Bool.or_eq_true] at h2
    refine ⟨k, r, rfl, hr, ?_⟩
    rcases h2 with e | e
    · exact Or.inl (of_decide_eq_true e).symm
    · exact Or.inr (of_decide_eq_true e).symm
def sp_doorsR (K : PySem.W.Frag) (C : Addr) : Sp := fun vs H Q _ => ∃ (n a : Addr) (B : Hp) (ps qs : List Int) (rs : List Row) (ts : List V) (h : Int), vs = [.ref n, .ref a, .int h] ∧ Ex B H ∧ NetAt C B n ps qs rs ∧ B a = some (.lst ts) ∧ RowsAt B ts rs ∧
  Places ps ∧ Roads ps rs ∧ h ∈ ps ∧ ∀ H', Ex H H' → Q (.bl true) H'
theorem sIx02 (n : Nat) (h : n = 3) : ¬ (HT.sIx n 0 none = 0 ∧ HT.sIx n n (some 2) = n) := by
  subst h
  decide
section
variable {P : Program} {w : World} {K : PySem.W.Frag} {mg : Str → Option Value} {base : Heap}
theorem ok_doorsR (T : Tx K mg) : FnOkG P w K mg base CX0 4 T.a_l_doors_right T.d_l_doors_right ["_law_net", "_law_roads_here", "_law_place"] (sp_doorsR K T.c_Net) := by
  have G_Net_doors := ok_ndoors (P := P) (w := w) (base := base) T
  have G_Net_beyond := ok_nbeyond (P := P) (w := w) (base := base) T
  have G_l_beyond := ok_beyondL (P := P) (w := w) (base := base) T
  refine okG T.F_l_doors_right sc_l_doors_right (fun vs H Q E h => ?_) (fun cdv A outer s H vs Q E hgd hr h => ?_)
  · obtain ⟨_, _, _, _, _, _, _, _, rfl, _⟩ := h
    rfl
  · obtain ⟨n, a, B, ps, qs, rs, ts, h, rfl, eB, hN, ha, hrs, hP, hR, hin, q⟩ := h
    refine ⟨_, (pss_cons (ps_setLc (i := 4) (own := [("_law_k", 3)]) (g := (gName 3)) rfl sc_l_doors_right.nd rfl rfl (sw_true rfl rfl rfl (by decide +kernel)) (pi_range1 rfl T.z_range (pa_cons (pe_callB (lenK (K := K) rfl) (by rfl) T.z_len (by decide +kernel) (pa_cons (pv 1) pa_nil)) pa_nil)) (blkOk_by (N := n_l_doors_right) (sc := defScope s_l_doors_right) (by decide +kernel)) (fun _ _ _ _ _ => (pg_name (i := 3) sc_l_doors_right.nd rfl (Or.inl rfl))) (fun _ _ _ _ _ => (pts_one (pt_cmpR (op_inK (K := K) rfl) (pv 2) (pe_slice (sl_tupK (K := K) rfl) (pe_ix (ix_listK (K := K) rfl) (pv 1) (pv 3) (fun _ _ => rfl)) po_none (po_some pe_int)) (by rfl)))) (fun _ _ _ _ _ => (pv 3)))
  (pss_cons (ps_for PassesOwn.never rfl (iListK (K := K) rfl (pe_lst (pa_cons (pe_meth (pv 0) T.cl_Net T.me_Net_doors G_Net_doors (hr.mono (by decide)) T.b_Net_doors .nil pass0 (pa_cons (pv 2) pa_nil)) (pa_cons (pe_methK0 (pv 0) T.cl_Net T.me_Net_doors G_Net_doors (hr.mono (by decide)) T.kb_Net_doors_hall pass0 (pk_cons (pv 2) pk_nil)) pa_nil)))) (pg_name (i := 5) sc_l_doors_right.nd rfl (Or.inl rfl))
   (pss_cons (ps_if (PW.pt (pw_or (pt_not (pt_val (pe_callB (isiK (K := K) rfl) (by rfl) T.z_isinstance (by decide +kernel) (pa_cons (pv 5) (pa_cons (pe_bltn (v := .ty "list") (by rfl) T.z_list (by decide +kernel) rfl) pa_nil))))) (pw_or1 (pt_cmpR op_ne (pe_callB (reprK (K := K) rfl hgd hr) (by rfl) T.z_repr (by decide +kernel) (pa_cons (pv 5) pa_nil)) (pe_callB (reprK (K := K) rfl hgd hr) (by rfl) T.z_repr (by decide +kernel) (pa_cons (pv 4) pa_nil)) (nomark _))))) (pss_one (ps_ret pe_bl)) pss_nil)
  (pss_one (ps_expr (pe_bm PySem.F.plainAttrs_list PySem.F.slot_list_append PySem.F.type_list_append mt_append (pv 5) (pa_cons pe_int pa_nil))))))
  (pss_cons (ps_for PassesOwn.never rfl (iListK (K := K) rfl (pv 4)) (pg_name (i := 3) sc_l_doors_right.nd rfl (Or.inl rfl))
   (pss_cons (ps_set (i := 6) sc_l_doors_right.nd rfl (Or.inl rfl) (pe_lst (pa_cons (pe_meth (pv 0) T.cl_Net T.me_Net_beyond G_Net_beyond (hr.mono (by decide)) T.b_Net_beyond .nil pass0 (pa_cons (pv 3) (pa_cons (pv 2) pa_nil))) (pa_cons (pe_methK0 (pv 0) T.cl_Net T.me_Net_beyond G_Net_beyond (hr.mono (by decide)) T.kb_Net_beyond_hall_link pass0 (pk_cons (pv 2) (pk_cons (pv 3) pk_nil))) pa_nil))))
  (pss_one (ps_if (pt_cmpR op_ne (pe_callB (reprK (K := K) rfl hgd hr) (by rfl) T.z_repr (by decide +kernel) (pa_cons (pv 6) pa_nil)) (pe_callB (reprK (K := K) rfl hgd hr) (by rfl) T.z_repr (by decide +kernel) (pa_cons (pe_op op_rep (pe_lst (pa_cons (pe_call G_l_beyond (hr.mono (by decide)) (by rfl) T.g_l_beyond T.F_l_beyond.kp T.b_l_beyond .nil pass0 (pa_cons (pe_ix (ix_listK (K := K) rfl) (pv 1) (pv 3) (fun _ _ => rfl)) (pa_cons (pv 2) pa_nil))) pa_nil)) pe_int) pa_nil)) (nomark _)) (pss_one (ps_ret pe_bl)) pss_nil))))
  (pss_one (ps_ret pe_bl))))), ?_⟩
    have hlen := hrs.len
    have h12 := hR.len
    have hinq : h ∈ qs := hN.pm.mem_iff.mpr hin
    -- wanted
    refine q_asgL (xs := doorsOf rs h) ?_ (fun wa H1 hwa e1 hw1 => ?_)
    · have k := el_lcR1 (σ := L2.start ["_law_net", "_law_roads_here", "_law_place", "_law_k", "_law_wanted", "_law_found", "_law_there"] [.ref n, .ref a, .int h]) (H := H) (j := 3) (vs := [3]) (n := (rs.length : Int)) (ta := tCons (tCB (rLenQ K) (tCons (tVar 1) tNil)) tNil)
        (t := tTest (tOp (rIn K false) (tVar 2) (tSl (rSlT K) (tOp (rIxL K) (tVar 1) (tVar 3)) tNoPart (tPart (tC (.int 2)))))) (te := tVar 3) (touch rs h) (fun k => .int (k : Nat)) ?_ (by omega) (fun x => rfl) (fun i H1 e1 hi => ?_) (fun i H1 e1 hi _ => ev_var rfl)
      · rw [Int.toNat_natCast] at k
        exact k
      · exact fun H1 e1 Q q => ⟨_, rfl, a, ts, rfl, .inl (SqL.of (e1 _ _ (eB _ _ ha))), by rw [hlen]; exact q _ (Ex.refl _)⟩
      · intro H2 e2 Q q
        have hi' : i < rs.length := by omega
        have hr0 : rs[i]? = some rs[i] := List.getElem?_eq_getElem hi'
        obtain ⟨b, hb1, hb2⟩ := rows_at hrs hr0
        have e12 := e1.trans e2
        refine ⟨_, rfl, _, rfl, _, rfl, a, _, i, _, rfl, rfl, SqL.of (e12 _ _ (eB _ _ ha)), atI_nat hb1, 2, rfl, b, _, rfl, SqT.of (e12 _ _ (eB _ _ hb2)), sIx02 _ rfl, fun u hu => ⟨u, _, rfl, .inr (SqT.of upd_same), rfl, rfl, _, rfl, ?_⟩⟩
        have ein : inV (.int h) (cutV (rowV rs[i]) none (some 2)) = touch rs h i := by
          rw [show (cutV (rowV rs[i]) none (some 2) : List V) = [rs[i].1, rs[i].2.1].map V.int from rfl, inV_ints]
          unfold touch
          rw [hr0]
          show decide (h ∈ [rs[i].1, rs[i].2.1]) = (decide (rs[i].1 = h) || decide (rs[i].2.1 = h))
          by_cases c1 : rs[i].1 = h
          · simp [c1]
          · by_cases c2 : rs[i].2.1 = h
            · simp [c2]
            · have c1' : ¬ h = rs[i].1 := fun e => c1 e.symm
              have c2' : ¬ h = rs[i].2.1 := fun e => c2 e.symm
              simp [c1, c2, c1', c2']
        rw [ein]
        exact q _ (Ex.new hu)
    have hSm : Small (.list ((doorsI rs h).map PyData.int)) 1 (12 * 12 + 3) := small_ints (Nat.le_trans (doors_len rs h) h12) (fun x hx => by
      obtain ⟨k, r, rfl, hr0, _⟩ := doors_mem hx
      have := (List.getElem?_eq_some_iff.mp hr0).1
      show (k : Int).natAbs < 10 ^ 9
      omega)
    have hD : ∀ {H' : Hp} {p : Addr}, H' p = some (.lst (doorsOf rs h)) → Shows K H' (.ref p) (.list ((doorsI rs h).map PyData.int)) := fun {H' p} hp => by
      rw [doors_eq] at hp
      exact Shows.of (.lst (SqL.of hp) (dp_ints _)) hSm
    -- for found in [net.doors(place), net.doors(hall=place)]
    obtain ⟨dx, x1, x2, x3, x4, hn, _⟩ := id hN.ex
    refine ⟨_, rfl, n, dx, _, rfl, e1 _ _ (eB _ _ hn), nf_no _ _ _ (by decide +kernel) (by decide +kernel) (by decide +kernel), _, rfl, n, B, ps, qs, rs, h, rfl, eB.trans e1, hN, hinq, h12, fun d1 H2 hd1 e2 hd12 => ?_⟩
    have e02 := eB.trans (e1.trans e2)
    refine ⟨_, rfl, n, dx, _, rfl, e02 _ _ hn, nf_no _ _ _ (by decide +kernel) (by decide +kernel) (by decide +kernel), _, rfl, rfl, n, B, ps, qs, rs, h, rfl, e02, hN, hinq, h12, fun d2 H3 hd2 e3 hd23 => ?_⟩
    have e03 := e02.trans e3
    refine ⟨by show 2 ≤ sizeLine; decide, fun p hp => ?_⟩
    have e4 := Ex.new (o := .lst [.ref d1, .ref d2]) hp
    have nd12 : d1 ≠ d2 := ne_of_none hd12 hd2
    have n1p : d1 ≠ p := ne_of_none (e3 _ _ hd12) hp
    have n2p : d2 ≠ p := ne_of_none hd23 hp
    have hw3 := e3 _ _ (e2 _ _ hw1)
    have eH := (e1.trans e2).trans (e3.trans e4)
    have hd1H := fresh_back e1 hd1
    have hd2H := fresh_back (e1.trans e2) hd2
    refine ⟨p, rfl, ⟨_, SqL.of upd_same⟩, for_list (K := K) (a := p) (xs := [.ref d1, .ref d2]) (fun i σ H' => ∃ (y3 y5 y6 : Option V), σ = [some (.ref n), some (.ref a), some (.int h), y3, some (.ref wa), y5, y6] ∧ Ex H H' ∧ H' wa = some (.lst (doorsOf rs h)) ∧ H' p = some (.lst [.ref d1, .ref d2]) ∧
      (i ≤ 0 → H' d1 = some (.lst (doorsOf rs h))) ∧ (i ≤ 1 → H' d2 = some (.lst (doorsOf rs h)))) ⟨_, _, _, rfl, eH, e4 _ _ hw3, upd_same, fun _ => e4 _ _ (e3 _ _ hd12), fun _ => e4 _ _ hd23⟩ (fun i σ H' _ ⟨_, _, _, _, _, _, hp', _⟩ => SqL.of hp') ?_ ?_⟩
    · rintro i x σ H' hi ⟨y3, y5, y6, rfl, eH', hwa', hp', g1, g2⟩
      obtain ⟨d, rfl, hd', hdH, ndp, ndw, nd2⟩ : ∃ d, x = .ref d ∧ H' d = some (.lst (doorsOf rs h)) ∧ H d = none ∧ d ≠ p ∧ d ≠ wa ∧ (i + 1 ≤ 1 → d2 ≠ d) := by
        match i, hi with
        | 0, hi =>
          obtain rfl := Option.some.inj hi
          exact ⟨d1, rfl, g1 (Nat.le_refl _), hd1H, n1p, (ne_of_none hw1 hd1).symm, fun _ => nd12.symm⟩
        | 1, hi =>
          obtain rfl := Option.some.inj hi
          exact ⟨d2, rfl, g2 (Nat.le_refl _), hd2H, n2p, (ne_of_none (e2 _ _ hw1) hd2).symm, fun z => absurd z (by omega)⟩
      have sh := hD hd'
      have shw := hD hwa'
      refine ⟨_, rfl, ?_⟩
      refine ⟨_, .ty "list", _, .type "list", _, rfl, .ty _, (AnyT.lst hd').ty, kit_ty (kit_all (AnyT.lst hd').mem).2.2.1, _, rfl, ?_⟩
      refine iteF ⟨_, rfl, _, _, rfl, sh.dp, sh.sh, sh.nd, sh.dt, sh.ln, _, rfl, _, _, rfl, shw.dp, shw.sh, shw.nd, shw.dt, shw.ln, rfl, _, rfl, ?_⟩
      refine iteNS rfl ?_
      have hlD : (doorsOf rs h).length ≤ 12 := by
        rw [doors_eq, List.length_map]
        exact Nat.le_trans (doors_len rs h) h12
      refine ⟨_, rfl, .inl ⟨rfl, _, SqL.of hd'⟩, d, _, _, rfl, rfl, hd', len8 (by omega), ?_⟩
      refine ⟨_, _, _, rfl, eH'.mut hdH, ?_, ?_, fun z => absurd z (by omega), fun z => ?_⟩
      · rw [upd_ne ndw.symm]; exact hwa'
      · rw [upd_ne ndp.symm]; exact hp'
      · rw [upd_ne (nd2 z)]; exact g2 (by omega)
    · rintro σ H4 ⟨y3, y5, y6, rfl, eH', hwa', hp', _, _⟩
      -- for k in wanted
      refine ⟨_, rfl, wa, rfl, ⟨_, SqL.of hwa'⟩, for_list (K := K) (a := wa) (xs := doorsOf rs h) (fun i σ H' => ∃ (y3 y5 y6 : Option V), σ = [some (.ref n), some (.ref a), some (.int h), y3, some (.ref wa), y5, y6] ∧ Ex H H' ∧ H' wa = some (.lst (doorsOf rs h)))
        ⟨_, _, _, rfl, eH', hwa'⟩ (fun i σ H' _ ⟨_, _, _, _, _, hw⟩ => SqL.of hw) ?_ ?_⟩
      · rintro i x σ H5 hi ⟨y3, y5, y6, rfl, eH5, hwa5⟩
        obtain ⟨k, r, rfl, hr0, hor⟩ : ∃ (k : Nat) (r : Row), x = .int (k : Int) ∧ rs[k]? = some r ∧ (h = r.1 ∨ h = r.2.1) := by
          have hm := List.mem_of_getElem? hi
          rw [doors_eq] at hm
          obtain ⟨z, hz, rfl⟩ := List.mem_map.mp hm
          obtain ⟨k, r, rfl, h1, h2⟩ := doors_mem hz
          exact ⟨k, r, rfl, h1, h2⟩
        have hok := hR.ok r (List.mem_of_getElem? hr0)
        have b1 := hP.bd _ hok.m1
        have b2 := hP.bd _ hok.m2
        have eB5 := eB.trans eH5
        -- there = [net.beyond(k, place), net.beyond(hall=place, link=k)]
        refine ⟨_, rfl, n, dx, _, rfl, eB5 _ _ hn, nf_no _ _ _ (by decide +kernel) (by decide +kernel) (by decide +kernel), _, rfl, _, rfl, n, B, ps, qs, rs, k, r, h, rfl, eB5, hN, hr0, h12, hor, fun H6 e6 => ?_⟩
        have eB6 := eB5.trans e6
        refine ⟨_, rfl, n, dx, _, rfl, eB6 _ _ hn, nf_no _ _ _ (by decide +kernel) (by decide +kernel) (by decide +kernel), _, rfl, _, rfl, rfl, n, B, ps, qs, rs, k, r, h, rfl, eB6, hN, hr0, h12, hor, fun H7 e7 => ?_⟩
        have eB7 := eB6.trans e7
        generalize hb : (if h = r.1 then r.2.1 else r.1) = b
        have bb : b.natAbs < 10 ^ 9 := by
          rw [← hb]
          split <;> omega
        refine ⟨by show 2 ≤ sizeLine; decide, fun th hth => ?_⟩
        have e8 := Ex.new (o := .lst [.int b, .int b]) hth
        have hS2 : Small (.list ([b, b].map PyData.int)) 1 (2 * 12 + 3) := small_ints (Nat.le_refl _) (fun x hx => by
          rcases List.mem_cons.mp hx with e | hx
          · rw [e]; exact bb
          · rw [List.mem_singleton.mp hx]; exact bb)
        have sh1 : Shows K (upd H7 th (.lst [.int b, .int b])) (.ref th) (.list ([b, b].map PyData.int)) := Shows.of (.lst (SqL.of upd_same) (dp_ints [b, b])) hS2
        -- repr(there) != repr([beyond(roads[k], place)] * 2)
        have hrk : rs[k]? = some r := hr0
        obtain ⟨ra, hra1, hra2⟩ := rows_at hrs hrk
        have eB8 := eB7.trans e8
        refine ⟨_, rfl, _, _, rfl, sh1.dp, sh1.sh, sh1.nd, sh1.dt, sh1.ln, _, rfl, _, rfl, a, _, k, _, rfl, rfl, SqL.of (eB8 _ _ ha), atI_nat hra1, _, rfl, ra, r, h, rfl, eB8 _ _ hra2, ?_⟩
        have hbb : (if r.1 = h then r.2.1 else r.1) = b := by
          rw [← hb]
          by_cases c : r.1 = h
          · rw [if_pos c, if_pos c.symm]
          · rw [if_neg c, if_neg (fun e => c e.symm)]
        rw [hbb]
        refine ⟨by show 1 ≤ sizeLine; decide, fun u hu => ?_⟩
        refine ⟨u, 2, _, rfl, rfl, upd_same, by decide, by decide, by show 2 ≤ sizeLine; decide, fun v hv => ?_⟩
        have sh2 : Shows K (upd (upd (upd H7 th (.lst [.int b, .int b])) u (.lst [.int b])) v (.lst (List.replicate (2 : Int).toNat [V.int b]).flatten)) (.ref v) (.list ([b, b].map PyData.int)) := Shows.of (.lst (SqL.of upd_same) (dp_ints [b, b])) hS2
        refine ⟨_, _, rfl, sh2.dp, sh2.sh, sh2.nd, sh2.dt, sh2.ln, rfl, _, rfl, ?_⟩
        refine iteNS rfl ?_
        have eZ := (e6.trans e7).trans ((e8.trans (Ex.new (o := .lst [.int b]) hu)).trans (Ex.new (o := .lst (List.replicate (2 : Int).toNat [V.int b]).flatten) hv))
        exact ⟨_, _, _, rfl, eH5.trans eZ, eZ _ _ hwa5⟩
      · rintro σ H5 ⟨y3, y5, y6, rfl, eH5, hwa5⟩
        exact q H5 eH5
end
end K01

set_option maxHeartbeats 4000000
namespace K01
open PySem PySem.Spec PyProof.Rows L2 Evl MyG
theorem cost_sum {ps : List Int} : ∀ {rs : List Row}, (∀ r ∈ rs, RoadOk ps r) → 0 ≤ (rs.map (·.2.2)).sum ∧ (rs.map (·.2.2)).sum ≤ 30 * (rs.length : Int)
  | [], _ => ⟨by decide, by decide⟩
  | r :: rs, h => by
    have h1 := h r (List.mem_cons_self ..)
    have h2 := cost_sum fun x hx => h x (List.mem_cons_of_mem r hx)
    have c0 := h1.c0
    have c1 := h1.c1
    rw [List.map_cons, List.sum_cons, List.length_cons]
    omega
def costD (r : Row) : PyData := .list [.int r.2.2, .int r.2.2]
def PairsAt (B : Hp) : List V → List Row → Prop := Paired fun (v : V) (r : Row) => ∃ p, v = .ref p ∧ B p = some (.lst [.int r.2.2, .int r.2.2])
theorem PairsAt.mono {B B' : Hp} (e : Ex B B') {vs : List V} {rs : List Row} (h : PairsAt B vs rs) : PairsAt B' vs rs := Paired.mapP h fun _ _ ⟨a, h1, h2⟩ => ⟨a, h1, e _ _ h2⟩
theorem PairsAt.snoc {B : Hp} {a : Addr} {r : Row} (ha : B a = some (.lst [.int r.2.2, .int r.2.2])) : ∀ {vs : List V} {rs : List Row}, PairsAt B vs rs → PairsAt B (vs ++ [.ref a]) (rs ++ [r])
  | _, _, .nil => .cons ⟨a, rfl, ha⟩ .nil
  | _, _, .cons h t => .cons h (PairsAt.snoc ha t)
theorem dp_pairs {K : PySem.W.Frag} {B : Hp} : ∀ {ts : List V} {rs : List Row}, PairsAt B ts rs → DpAll K B ts (rs.map costD)
  | _, _, .nil => .nil
  | _, _, .cons ⟨a, h1, h2⟩ t => .cons (by rw [h1]; exact .lst (SqL.of h2) (.cons (.int _) (.cons (.int _) .nil))) (dp_pairs t)
theorem small_costs {ps : List Int} {rs : List Row} (hR : Roads ps rs) : Small (.list (rs.map costD)) 2 (12 * 29 + 3) := by
  have h := small_list (k := 1) (L := 27) (ds := rs.map costD) (fun d hd => by
    obtain ⟨r, hr, rfl⟩ := List.mem_map.mp hd
    have k := hR.ok r hr
    have c0 := k.c0
    have c1 := k.c1
    exact small_list (k := 0) (L := 10) (ds := [.int r.2.2, .int r.2.2]) (fun d hd => by
      simp only [List.mem_cons, List.not_mem_nil, or_false] at hd
      rcases hd with rfl | rfl <;> exact small_int (by omega)))
  refine h.mono (Nat.le_refl _) ?_
  rw [List.length_map]
  have := Nat.mul_le_mul_right 29 hR.len
  omega
end K01

set_option maxHeartbeats 8000000
namespace K01
open PySem PySem.Spec PyProof.Rows L2 Evl MyG
section
variable {P : Program} {w : World} {K : PySem.W.Frag} {mg : Str → Option Value} {base : Heap}
theorem ok_law (T : Tx K mg) : FnOkG P w K mg base CX0 7 T.a_law T.d_law ["_law_script"] (sp_law K) := by
  have G_l_state := ok_state (P := P) (w := w) (base := base) T
  have G_l_draw := ok_draw (P := P) (w := w) (base := base) T
  have G_l_places := ok_places (P := P) (w := w) (base := base) T
  have G_l_roads := ok_roads (P := P) (w := w) (base := base) T
  have G_Net___init__ := ok_init (P := P) (w := w) (base := base) T
  have G_Net_halls := ok_nhalls (P := P) (w := w) (base := base) T
  have G_Net_links := ok_nlinks (P := P) (w := w) (base := base) T
  have G_Net_most := ok_nmost (P := P) (w := w) (base := base) T
  have G_Net_cost := ok_ncost (P := P) (w := w) (base := base) T
  have G_l_doors_right := ok_doorsR (P := P) (w := w) (base := base) T
  refine okG T.F_law sc_law (fun vs H Q E h => ?_) (fun cdv A outer s H vs Q E hgd hr h => ?_)
  · obtain ⟨_, _, rfl, _⟩ := h
    rfl
  · obtain ⟨a, ns, rfl, hS, hlen, q⟩ := h
    refine ⟨_, (pss_cons (ps_set (i := 1) sc_law.nd rfl (Or.inl rfl) (pe_call G_l_state (hr.mono (by decide)) (by rfl) T.g_l_state T.F_l_state.kp T.b_l_state .nil pass0 (pa_cons (pv 0) pa_nil)))
  (pss_cons (ps_for PassesOwn.never rfl (pi_range1 rfl T.z_range (pa_cons pe_int pa_nil)) (pg_name (i := 2) sc_law.nd rfl (Or.inl rfl))
   (pss_cons (ps_set (i := 3) sc_law.nd rfl (Or.inl rfl) (pe_call G_l_places (hr.mono (by decide)) (by rfl) T.g_l_places T.F_l_places.kp T.b_l_places .nil pass0 (pa_cons (pv 1) pa_nil)))
  (pss_cons (ps_set (i := 4) sc_law.nd rfl (Or.inr rfl) (pe_call G_l_roads (hr.mono (by decide)) (by rfl) T.g_l_roads T.F_l_roads.kp T.b_l_roads .nil pass0 (pa_cons (pv 1) (pa_cons (pv 3) pa_nil))))
  (pss_cons (ps_par (i := 5) (j := 6) rfl sc_law.nd rfl rfl (by decide) rfl rfl (pa_cons (pe_callTy (listK (K := K) rfl) (by rfl) T.z_list (by decide +kernel) (pa_cons (pv 3) pa_nil)) (pa_cons (pe_callTy (listK (K := K) rfl) (by rfl) T.z_list (by decide +kernel) (pa_cons (pv 4) pa_nil)) pa_nil)) (by rfl))
  (pss_cons (ps_set (i := 7) sc_law.nd rfl (Or.inr rfl) (pe_ifExp (pt_cmpR op_eq (pe_call G_l_draw (hr.mono (by decide)) (by rfl) T.g_l_draw T.F_l_draw.kp T.b_l_draw .nil pass0 (pa_cons (pv 1) (pa_cons pe_int pa_nil))) pe_int (nomark _)) (pe_makeK0 T.m_Net G_Net___init__ (hr.mono (by decide)) (by rfl) T.g_Net T.kb_Net___init___links_halls pass0 (pk_cons (pv 6) (pk_cons (pv 5) pk_nil))) (pe_make T.m_Net G_Net___init__ (hr.mono (by decide)) (by rfl) T.g_Net T.b_Net___init__ .nil pass0 (pa_cons (pv 5) (pa_cons (pv 6) pa_nil)))))
  (pss_cons (ps_expr (pe_bm PySem.F.plainAttrs_list PySem.F.slot_list_append PySem.F.type_list_append mt_append (pv 5) (pa_cons pe_int pa_nil)))
  (pss_cons (ps_expr (pe_bm PySem.F.plainAttrs_list PySem.F.slot_list_append PySem.F.type_list_append mt_append (pv 6) (pa_cons pe_non pa_nil)))
  (pss_cons (ps_expr (pe_bm0 PySem.F.plainAttrs_list PySem.F.slot_list_reverse PySem.F.type_list_reverse mt_reverse (pv 6)))
  (pss_cons (ps_for PassesOwn.never rfl (pi_range1 rfl T.z_range (pa_cons pe_int pa_nil)) (pg_name (i := 8) sc_law.nd rfl (Or.inl rfl))
   (pss_cons (ps_par (i := 9) (j := 10) rfl sc_law.nd rfl rfl (by decide) rfl rfl (pa_cons (pe_meth0 (pv 7) T.cl_Net T.me_Net_halls G_Net_halls (hr.mono (by decide)) T.b_Net_halls .nil pass0) (pa_cons (pe_meth0 (pv 7) T.cl_Net T.me_Net_links G_Net_links (hr.mono (by decide)) T.b_Net_links .nil pass0) pa_nil)) (by rfl))
  (pss_cons (ps_if (pt_cmpR op_ne (pe_callB (reprK (K := K) rfl hgd hr) (by rfl) T.z_repr (by decide +kernel) (pa_cons (pe_lst (pa_cons (pv 9) (pa_cons (pv 10) pa_nil))) pa_nil)) (pe_callB (reprK (K := K) rfl hgd hr) (by rfl) T.z_repr (by decide +kernel) (pa_cons (pe_lst (pa_cons (pe_callB (sortedK (K := K) rfl) (by rfl) T.z_sorted (by decide +kernel) (pa_cons (pv 3) pa_nil)) (pa_cons (pv 4) pa_nil))) pa_nil)) (nomark _)) (pss_one (ps_ret pe_bl)) pss_nil)
  (pss_cons (ps_expr (pe_bm0 PySem.F.plainAttrs_list PySem.F.slot_list_reverse PySem.F.type_list_reverse mt_reverse (pv 9)))
  (pss_cons (ps_expr (pe_bm PySem.F.plainAttrs_list PySem.F.slot_list_append PySem.F.type_list_append mt_append (pv 10) (pa_cons pe_non pa_nil)))
  (pss_one (ps_if (pt_cmpR op_ne (pe_callB (reprK (K := K) rfl hgd hr) (by rfl) T.z_repr (by decide +kernel) (pa_cons (pe_meth0 (pv 7) T.cl_Net T.me_Net_most G_Net_most (hr.mono (by decide)) T.b_Net_most .nil pass0) pa_nil)) (pe_callB (reprK (K := K) rfl hgd hr) (by rfl) T.z_repr (by decide +kernel) (pa_cons (pe_callB (sumK (K := K) rfl rfl) (by rfl) T.z_sum (by decide +kernel) (pa_cons (pe_lc (own := [("_law_row", 12)]) (g := (gName 12)) (tt := tYes) rfl sc_law.nd (iListK (K := K) rfl (pv 4)) (blkOk_by (N := n_law) (sc := defScope s_law) (by decide +kernel)) (fun _ _ _ _ _ => (pg_name (i := 12) sc_law.nd rfl (Or.inl rfl))) (fun _ _ _ _ _ => pts_nil) (fun _ _ _ _ _ => (pe_ix (ix_tupK (K := K) rfl) (pv 12) pe_int (fun _ _ => rfl)))) pa_nil)) pa_nil)) (nomark _)) (pss_one (ps_ret pe_bl)) pss_nil)))))))
  (pss_cons (ps_setLc (i := 11) (own := [("_law_k", 13)]) (g := (gName 13)) (tt := tYes) rfl sc_law.nd rfl rfl (sw_true rfl rfl rfl (by decide +kernel)) (pi_range1 rfl T.z_range (pa_cons (pe_callB (lenK (K := K) rfl) (by rfl) T.z_len (by decide +kernel) (pa_cons (pv 4) pa_nil)) pa_nil)) (blkOk_by (N := n_law) (sc := defScope s_law) (by decide +kernel)) (fun _ _ _ _ _ => (pg_name (i := 13) sc_law.nd rfl (Or.inl rfl))) (fun _ _ _ _ _ => pts_nil) (fun _ _ _ _ _ => (pe_lst (pa_cons (pe_meth (pv 7) T.cl_Net T.me_Net_cost G_Net_cost (hr.mono (by decide)) T.b_Net_cost .nil pass0 (pa_cons (pv 13) pa_nil)) (pa_cons (pe_methK0 (pv 7) T.cl_Net T.me_Net_cost G_Net_cost (hr.mono (by decide)) T.kb_Net_cost_link pass0 (pk_cons (pv 13) pk_nil)) pa_nil)))))
  (pss_cons (ps_if (pt_cmpR op_ne (pe_callB (reprK (K := K) rfl hgd hr) (by rfl) T.z_repr (by decide +kernel) (pa_cons (pv 11) pa_nil)) (pe_callB (reprK (K := K) rfl hgd hr) (by rfl) T.z_repr (by decide +kernel) (pa_cons (pe_lc (own := [("_law_row", 12)]) (g := (gName 12)) (tt := tYes) rfl sc_law.nd (iListK (K := K) rfl (pv 4)) (blkOk_by (N := n_law) (sc := defScope s_law) (by decide +kernel)) (fun _ _ _ _ _ => (pg_name (i := 12) sc_law.nd rfl (Or.inl rfl))) (fun _ _ _ _ _ => pts_nil) (fun _ _ _ _ _ => (pe_lst (pa_cons (pe_ix (ix_tupK (K := K) rfl) (pv 12) pe_int (fun _ _ => rfl)) (pa_cons (pe_ix (ix_tupK (K := K) rfl) (pv 12) pe_int (fun _ _ => rfl)) pa_nil))))) pa_nil)) (nomark _)) (pss_one (ps_ret pe_bl)) pss_nil)
  (pss_one (ps_if (pt_cmpR (op_inK (K := K) rfl) pe_bl (pe_lc (own := [("_law_place", 14)]) (g := (gName 14)) (tt := tYes) rfl sc_law.nd (iListK (K := K) rfl (pv 3)) (blkOk_by (N := n_law) (sc := defScope s_law) (by decide +kernel)) (fun _ _ _ _ _ => (pg_name (i := 14) sc_law.nd rfl (Or.inl rfl))) (fun _ _ _ _ _ => pts_nil) (fun _ _ _ _ _ => (pe_callG G_l_doors_right hgd (hr.mono (by decide)) (by rfl) T.g_l_doors_right T.F_l_doors_right.kp T.b_l_doors_right .nil pass0 (pa_cons (pv 7) (pa_cons (pv 4) (pa_cons (pv 14) pa_nil)))))) (by rfl)) (pss_one (ps_ret pe_bl)) pss_nil)))))))))))))
  (pss_one (ps_ret pe_bl)))), ?_⟩
    refine ⟨_, rfl, a, ns, rfl, hS, hlen, fun s c H1 e1 hs hc st => ?_⟩
    refine ⟨3, rfl, by decide, by decide, for_range (lo := 0) (n := (3 : Int).toNat) (fun i σ H' => ∃ (y2 y3 y4 y5 y6 y7 y8 y9 y10 y11 y12 y13 y14 : Option V), σ = [some (.ref a), some (.ref s), y2, y3, y4, y5, y6, y7, y8, y9, y10, y11, y12, y13, y14] ∧ Sta s c H')
      ⟨_, _, _, _, _, _, _, _, _, _, _, _, _, rfl, st⟩ ?_ ?_⟩
    · rintro i σ H2 hi ⟨y2, y3, y4, y5, y6, y7, y8, y9, y10, y11, y12, y13, y14, rfl, st2⟩
      have W0 : Wd s c (fun _ => none) H2 := ⟨fun _ _ z => (nomatch z), rfl, rfl, st2⟩
      -- places, roads
      refine ⟨_, rfl, s, c, _, rfl, W0, fun p1 ps H3 hP hp1 W1 => ?_⟩
      refine ⟨_, rfl, _, rfl, s, c, p1, _, ps, rfl, W1, upd_same, hP, fun p2 ts rs B H4 eB hR hrs hp2 hB2 W => ?_⟩
      have hB1 : B p1 = some (.lst (ps.map V.int)) := eB _ _ upd_same
      have lts := hrs.len
      -- first, second
      refine ⟨_, rfl, p1, _, rfl, .inl (SqL.of (W.ex _ _ hB1)), fun f1 hf1 => ?_⟩
      have Wf1 := W.ext (Ex.new (o := .lst (ps.map V.int)) hf1)
      have f1s := W.st.ne_s hf1
      have f1c := W.st.ne_c hf1
      have f1B := W.none_of hf1
      refine ⟨_, rfl, p2, _, rfl, .inl (SqL.of (Wf1.ex _ _ hB2)), fun f2 hf2 => ⟨_, _, rfl, ?_⟩⟩
      have Wf2 := Wf1.ext (Ex.new (o := .lst ts) hf2)
      have f2s := Wf1.st.ne_s hf2
      have f2c := Wf1.st.ne_c hf2
      have f2B := Wf1.none_of hf2
      have f12 : f1 ≠ f2 := ne_of_none (show (upd H4 f1 (.lst (ps.map V.int))) f1 = some _ from upd_same) hf2
      have g1 : (upd (upd H4 f1 (.lst (ps.map V.int))) f2 (.lst ts)) f1 = some (.lst (ps.map V.int)) := by rw [upd_ne f12, upd_same]
      have g2 : (upd (upd H4 f1 (.lst (ps.map V.int))) f2 (.lst ts)) f2 = some (.lst ts) := upd_same
      -- net = Net(..)
      dsimp only
      refine un_seq (un_asg (fork (fun x H' => ∃ n B3 qs, x = .ref n ∧ Ex B B3 ∧ Wd s c B3 H' ∧ NetAt T.c_Net B3 n ps qs rs ∧ B3 f1 = none ∧ B3 f2 = none ∧ H' f1 = some (.lst (ps.map V.int)) ∧ H' f2 = some (.lst ts)) (fun K' kk => ?_) (fun x H5 hg => ?_)))
      · refine ⟨_, rfl, s, c, 2, rfl, Wf2.st, by decide, by decide, fun r H5 r0 r1 st5 off5 => ?_⟩
        have W5 := Wf2.off st5 off5
        have g51 := (off5 f1 f1s f1c).trans g1
        have g52 := (off5 f2 f2s f2c).trans g2
        have make : ∀ n dx : Addr, H5 n = none → H5 dx = none → dx ≠ n → sp_init T.c_Net [.ref n, .ref f1, .ref f2] (upd (upd H5 dx (.own n)) n (.ins T.c_Net dx [])) (fun v H3 => v = .non ∧ K' (.ref n) H3) E0 := by
          intro n dx hn hdx ndx
          have keep : ∀ {x : Addr} {o : HO}, H5 x = some o → (upd (upd H5 dx (.own n)) n (.ins T.c_Net dx [])) x = some o := fun {x o} e => by
            rw [upd_ne (ne_of_none e hn), upd_ne (ne_of_none e hdx)]; exact e
          refine ⟨dx, n, f1, f2, ps, ts, rs, B, rfl, upd_same, fun x o e => keep (W5.ex x o e), W5.none_of hn, keep g51, keep g52, hP, hR, hrs, fun H' h r l qs frame hh hr hl e1 e2 e3 pm so e4 => ⟨rfl, ?_⟩⟩
          obtain ⟨B3, eB3, W3, hN, hno, eH⟩ := net_made W5 hn hdx frame hh hr hl e1 e2 e3 pm so e4 hrs
          exact kk _ _ ⟨n, B3, qs, rfl, eB3, W3, hN, hno f1 f1B (by rw [g51]; exact fun z => nomatch z), hno f2 f2B (by rw [g52]; exact fun z => nomatch z), eH _ _ g51, eH _ _ g52⟩
        refine ⟨rfl, _, rfl, ?_⟩
        refine ite2 (fun _ => ?_) (fun _ => ?_)
        · exact ⟨_, rfl, _, rfl, rfl, rfl, fun n dx hn hdx ndx => make n dx hn hdx ndx⟩
        · exact ⟨_, rfl, _, rfl, fun n dx hn hdx ndx => make n dx hn hdx ndx⟩
      · obtain ⟨n, B3, qs, rfl, eB3, W5, hN, n1, n2, g51, g52⟩ := hg
        have hB31 := eB3 _ _ hB1
        have hB32 := eB3 _ _ hB2
        have hrs3 := hrs.mono eB3
        have hB3n := hN.ex
        obtain ⟨dx, x1, x2, x3, x4, hn, _⟩ := hB3n
        have h12 := hR.len
        have h8 := hP.l1
        have nono : ∀ {m : Str}, ¬ m = "_links" → ¬ m = "_rising" → ¬ m = "_handed" → (nf x1 x2 x3).lookup m = none := fun h1 h2 h3 => nf_no _ _ _ h1 h2 h3
        -- first.append(1000); second.append(None); second.reverse()
        refine ⟨_, rfl, .inl ⟨rfl, _, SqL.of g51⟩, f1, _, _, rfl, rfl, g51, len8 (by rw [List.length_map]; omega), ?_⟩
        have W6 := W5.mut (o := .lst (ps.map V.int ++ [.int 1000])) n1 f1s f1c
        have g62 : (upd H5 f1 (.lst (ps.map V.int ++ [.int 1000]))) f2 = some (.lst ts) := by rw [upd_ne f12.symm]; exact g52
        refine ⟨_, rfl, .inl ⟨rfl, _, SqL.of g62⟩, f2, _, _, rfl, rfl, g62, len8 (by omega), ?_⟩
        have W7 := W6.mut (o := .lst (ts ++ [.non])) n2 f2s f2c
        have g72 : (upd (upd H5 f1 (.lst (ps.map V.int ++ [.int 1000]))) f2 (.lst (ts ++ [V.non]))) f2 = some (.lst (ts ++ [V.non])) := upd_same
        refine ⟨_, rfl, .inl ⟨rfl, _, SqL.of g72⟩, f2, _, rfl, rfl, g72, ?_⟩
        have W8 := W7.mut (o := .lst (ts ++ [V.non]).reverse) n2 f2s f2c
        -- for time in range(2)
        refine ⟨2, rfl, by decide, by decide, for_range (lo := 0) (n := (2 : Int).toNat) (fun i σ H' => ∃ (y2 y8 y9 y10 y11 y12 y13 y14 : Option V), σ = [some (.ref a), some (.ref s), y2, some (.ref p1), some (.ref p2), some (.ref f1), some (.ref f2), some (.ref n), y8, y9, y10, y11, y12, y13, y14] ∧ Wd s c B3 H')
          ⟨_, _, _, _, _, _, _, _, rfl, W8⟩ ?_ ?_⟩
        · rintro j σ H9 hj ⟨y2, y8, y9, y10, y11, y12, y13, y14, rfl, W9⟩
          -- told, rows = net.halls(), net.links()
          refine ⟨_, rfl, n, dx, _, rfl, W9.ex _ _ hn, nono (by decide +kernel) (by decide +kernel) (by decide +kernel), n, B3, ps, qs, rs, rfl, W9.ex, hN, fun t1 H10 ht1 eq1 => ?_⟩
          subst eq1
          have W10 := W9.ext (Ex.new (o := .lst (qs.map V.int)) ht1)
          refine ⟨_, rfl, n, dx, _, rfl, W10.ex _ _ hn, nono (by decide +kernel) (by decide +kernel) (by decide +kernel), n, B3, ps, qs, rs, rfl, W10.ex, hN, fun t2 H11 us ht2 hus eq2 => ?_⟩
          subst eq2
          have e11 := Ex.new (o := .lst us) ht2
          have W11 := W10.ext e11
          have k1 := e11 _ _ (show (upd H9 t1 (.lst (qs.map V.int))) t1 = some (.lst (qs.map V.int)) from upd_same)
          have k2 : (upd (upd H9 t1 (.lst (qs.map V.int))) t2 (.lst us)) t2 = some (.lst us) := upd_same
          have lus := hus.len
          refine ⟨_, _, rfl, ?_⟩
          have t12 : t1 ≠ t2 := ne_of_none (show (upd H9 t1 (.lst (qs.map V.int))) t1 = some _ from upd_same) ht2
          -- if repr([told, rows]) != repr([sorted(places), roads])
          have sQ : Small (.list (qs.map PyData.int)) 1 (8 * 12 + 3) := small_ints (by rw [hN.pm.length_eq]; exact h8) (fun x hx => by
            have := hP.bd x (hN.pm.mem_iff.mp hx)
            omega)
          have sL : Small (.list [.list (qs.map PyData.int), .list (rs.map rowD)]) 3 (2 * (495 + 2) + 3) := small_list (k := 2) (L := 495) (fun d hd => by
            simp only [List.mem_cons, List.not_mem_nil, or_false] at hd
            rcases hd with rfl | rfl
            · exact sQ.mono (by decide) (by decide)
            · exact small_rows hP hR)
          refine ⟨_, rfl, _, rfl, by show 2 ≤ sizeLine; decide, fun u1 hu1 => ?_⟩
          have e12 := Ex.new (o := .lst [.ref t1, .ref t2]) hu1
          have W12 := W11.ext e12
          have s1 : Shows K (upd (upd (upd H9 t1 (.lst (qs.map V.int))) t2 (.lst us)) u1 (.lst [.ref t1, .ref t2])) (.ref u1) (.list [.list (qs.map PyData.int), .list (rs.map rowD)]) :=
            Shows.of (.lst (SqL.of upd_same) (.cons (.lst (SqL.of (e12 _ _ k1)) (dp_ints qs)) (.cons (.lst (SqL.of (e12 _ _ k2)) (DpAll.ext W12.ex (dp_rows hus))) .nil))) sL
          refine ⟨_, _, rfl, s1.dp, s1.sh, s1.nd, s1.dt, s1.ln, ?_⟩
          refine ⟨_, rfl, p1, ps, rfl, SqL.of (W12.ex _ _ hB31), by omega, fun qs' u2 pm' so' hu2 => ?_⟩
          obtain rfl : qs' = qs := PySem.W.ksm_same (pm'.trans hN.pm.symm) so' hN.so
          have e13 := Ex.new (o := .lst (qs'.map V.int)) hu2
          have W13 := W12.ext e13
          refine ⟨_, rfl, by show 2 ≤ sizeLine; decide, fun u3 hu3 => ?_⟩
          have e14 := Ex.new (o := .lst [.ref u2, .ref p2]) hu3
          have W14 := W13.ext e14
          have s2 : Shows K (upd (upd (upd (upd (upd H9 t1 (.lst (qs'.map V.int))) t2 (.lst us)) u1 (.lst [.ref t1, .ref t2])) u2 (.lst (qs'.map V.int))) u3 (.lst [.ref u2, .ref p2])) (.ref u3) (.list [.list (qs'.map PyData.int), .list (rs.map rowD)]) :=
            Shows.of (.lst (SqL.of upd_same) (.cons (.lst (SqL.of (e14 _ _ upd_same)) (dp_ints qs')) (.cons (.lst (SqL.of (W14.ex _ _ hB32)) (DpAll.ext W14.ex (dp_rows hrs3))) .nil))) sL
          refine ⟨_, _, rfl, s2.dp, s2.sh, s2.nd, s2.dt, s2.ln, rfl, _, rfl, ?_⟩
          refine iteNS rfl ?_
          -- told.reverse(); rows.append(None)
          have k14 := e14 _ _ (e13 _ _ (e12 _ _ k1))
          have k24 := e14 _ _ (e13 _ _ (e12 _ _ k2))
          refine ⟨_, rfl, .inl ⟨rfl, _, SqL.of k14⟩, t1, _, rfl, rfl, k14, ?_⟩
          have b1 := W9.none_of ht1
          have b2 := W10.none_of ht2
          have W15 := W14.mut (o := .lst (qs'.map V.int).reverse) b1 (W9.st.ne_s ht1) (W9.st.ne_c ht1)
          refine ⟨_, rfl, .inl ⟨rfl, us, SqL.of (by rw [upd_ne t12.symm]; exact k24)⟩, t2, us, _, rfl, rfl, (by rw [upd_ne t12.symm]; exact k24), len8 (by omega), ?_⟩
          have W16 := W15.mut (o := .lst (us ++ [.non])) b2 (W10.st.ne_s ht2) (W10.st.ne_c ht2)
          -- if repr(net.most()) != repr(sum([..]))
          refine ⟨_, rfl, n, dx, _, rfl, W16.ex _ _ hn, nono (by decide +kernel) (by decide +kernel) (by decide +kernel), n, B3, ps, qs', rs, rfl, W16.ex, hN, by omega, fun H17 e17 => ?_⟩
          have W17 := W16.ext e17
          have cs := cost_sum (ps := ps) hR.ok
          have sI : ∀ H', Shows K H' (.int (rs.map (·.2.2)).sum) (.int (rs.map (·.2.2)).sum) := fun H' => Shows.of (.int _) (small_int (by omega))
          have s3 := sI H17
          refine ⟨_, _, rfl, s3.dp, s3.sh, s3.nd, s3.dt, s3.ln, ?_⟩
          refine un_cb (un_cons (un_cb (un_cons ?_)))
          refine go_L (el_map (a := p2) (xs := ts) (ys := (rs.map (·.2.2)).map V.int) (ev_var rfl) (SqL.of (W17.ex _ _ hB32)) (by omega) (by simp [lts]) (fun _ => rfl) (fun i x y H1 e1 hx hy => ?_)) (fun u4 H18 hu4 e18 h18 => ?_)
          · obtain ⟨r0, hr0, b, rfl, hb⟩ := paired_at hrs3 hx
            rw [List.map_map, List.getElem?_map, hr0] at hy
            obtain rfl := Option.some.inj hy
            exact fun H2 e2 Q q => ⟨_, rfl, b, _, 2, _, rfl, rfl, SqT.of (e2 _ _ (e1 _ _ (W17.ex _ _ hb))), atI_nat (j := 2) rfl, q _ (Ex.refl _)⟩
          · have s4 := sI H18
            refine ⟨u4, _, rfl, SqL.of h18, _, _, rfl, s4.dp, s4.sh, s4.nd, s4.dt, s4.ln, rfl, _, rfl, ?_⟩
            exact iteNS rfl ⟨_, _, _, _, _, _, _, _, rfl, W17.ext e18⟩
        · rintro σ H9 ⟨y2, y8, y9, y10, y11, y12, y13, y14, rfl, W9⟩
          -- costs = [..]
          refine ⟨_, rfl, p2, _, rfl, .inl (SqL.of (W9.ex _ _ hB32)), _, rfl, by omega, by omega, fun D hD => ?_⟩
          refine lc_range (lo := 0) (n := ((ts.length : Nat) : Int).toNat) (fun i H' => Ex H9 H' ∧ ∃ ws Bi, Ex Bi H' ∧ Bi D = none ∧ H' D = some (.lst ws) ∧ PairsAt Bi ws (rs.take i)) ⟨Ex.new hD, [], (fun _ => none), fun _ _ z => (nomatch z), rfl, upd_same, .nil⟩ (fun i H10 hi p => ?_) (fun H10 p => ?_)
          · obtain ⟨e10, ws, Bi, eBi, BiD, hD10, hws⟩ := p
            have W10 := W9.ext e10
            have hi' : i < rs.length := by omega
            have hr0 : rs[i]? = some rs[i] := List.getElem?_eq_getElem hi'
            refine ⟨rfl, un_yes (iteT ?_)⟩
            refine ⟨_, rfl, n, dx, _, rfl, W10.ex _ _ hn, nono (by decide +kernel) (by decide +kernel) (by decide +kernel), _, rfl, n, B3, ps, qs, rs, i, rs[i], by rw [Int.zero_add]; rfl, W10.ex, hN, hr0, h12, fun H11 e11 => ?_⟩
            have W11 := W10.ext e11
            refine ⟨_, rfl, n, dx, _, rfl, W11.ex _ _ hn, nono (by decide +kernel) (by decide +kernel) (by decide +kernel), _, rfl, rfl, n, B3, ps, qs, rs, i, rs[i], by rw [Int.zero_add]; rfl, W11.ex, hN, hr0, h12, fun H12 e12 => ?_⟩
            refine ⟨by show 2 ≤ sizeLine; decide, fun u hu => ?_⟩
            have e13 := Ex.new (o := .lst [.int rs[i].2.2, .int rs[i].2.2]) hu
            have eZ := e11.trans (e12.trans e13)
            have lw : ws.length ≤ 12 := by
              have := Paired.length hws
              rw [List.length_take] at this
              omega
            have uD : u ≠ D := (ne_of_none (e12 _ _ (e11 _ _ hD10)) hu).symm
            have uB : Bi u = none := fresh_back (eBi.trans (e11.trans e12)) hu
            refine ⟨ws, eZ _ _ hD10, len8 (by omega), ((e10.trans eZ)).mut hD, ws ++ [.ref u], upd Bi u (.lst [.int rs[i].2.2, .int rs[i].2.2]), ?_, by rw [upd_ne uD.symm]; exact BiD, upd_same, ?_⟩
            · intro x o hx
              by_cases z : x = u
              · rw [z, upd_same] at hx
                rw [z, upd_ne uD, upd_same]
                exact hx
              · rw [upd_ne z] at hx
                have xD : x ≠ D := fun e => by rw [e, BiD] at hx; cases hx
                rw [upd_ne xD]
                exact eZ _ _ (eBi _ _ hx)
            · rw [List.take_add_one, hr0]
              exact PairsAt.snoc upd_same (hws.mono (Ex.new uB))
          · obtain ⟨e10, ws, Bi, eBi, BiD, hD10, hws⟩ := p
            have W10 := W9.ext e10
            rw [show ((ts.length : Nat) : Int).toNat = rs.length by omega, List.take_length] at hws
            have sC := small_costs hR
            have s5 : Shows K H10 (.ref D) (.list (rs.map costD)) := Shows.of (.lst (SqL.of hD10) (DpAll.ext eBi (dp_pairs hws))) sC
            -- if repr(costs) != repr([..])
            refine ⟨_, rfl, _, _, rfl, s5.dp, s5.sh, s5.nd, s5.dt, s5.ln, ?_⟩
            refine ⟨_, rfl, p2, rfl, ⟨_, SqL.of (W10.ex _ _ hB32)⟩, fun D2 hD2 => ?_⟩
            refine lc_list (K := K) (a := p2) (xs := ts) (fun i H' => Ex H10 H' ∧ ∃ ws Bi, Ex Bi H' ∧ Bi D2 = none ∧ H' D2 = some (.lst ws) ∧ PairsAt Bi ws (rs.take i)) ⟨Ex.new hD2, [], (fun _ => none), fun _ _ z => (nomatch z), rfl, upd_same, .nil⟩ (fun i H' _ p => SqL.of (p.1 _ _ (W10.ex _ _ hB32))) (fun i x H11 hx p => ?_) (fun H11 p => ?_)
            · obtain ⟨e11, ws, Bi, eBi, BiD, hD11, hws⟩ := p
              obtain ⟨r0, hr0, b, rfl, hb⟩ := paired_at hrs3 hx
              have W11 := W10.ext e11
              have hb1 := W11.ex _ _ hb
              refine ⟨rfl, un_yes (iteT ?_)⟩
              refine ⟨_, rfl, b, _, 2, _, rfl, rfl, SqT.of hb1, atI_nat (j := 2) rfl, _, rfl, b, _, 2, _, rfl, rfl, SqT.of hb1, atI_nat (j := 2) rfl, by show 2 ≤ sizeLine; decide, fun u hu => ?_⟩
              have e13 := Ex.new (o := .lst [.int r0.2.2, .int r0.2.2]) hu
              have lw : ws.length ≤ 12 := by
                have := Paired.length hws
                rw [List.length_take] at this
                omega
              have uD : u ≠ D2 := (ne_of_none hD11 hu).symm
              have uB : Bi u = none := fresh_back eBi hu
              refine ⟨ws, e13 _ _ hD11, len8 (by omega), ((e11.trans e13)).mut hD2, ws ++ [.ref u], upd Bi u (.lst [.int r0.2.2, .int r0.2.2]), ?_, by rw [upd_ne uD.symm]; exact BiD, upd_same, ?_⟩
              · intro x o hx
                by_cases z : x = u
                · rw [z, upd_same] at hx
                  rw [z, upd_ne uD, upd_same]
                  exact hx
                · rw [upd_ne z] at hx
                  have xD : x ≠ D2 := fun e => by rw [e, BiD] at hx; cases hx
                  rw [upd_ne xD]
                  exact e13 _ _ (eBi _ _ hx)
              · rw [List.take_add_one, hr0]
                exact PairsAt.snoc upd_same (hws.mono (Ex.new uB))
            · obtain ⟨e11, ws, Bi, eBi, BiD, hD11, hws⟩ := p
              have W11 := W10.ext e11
              rw [lts, List.take_length] at hws
              have s6 : Shows K H11 (.ref D2) (.list (rs.map costD)) := Shows.of (.lst (SqL.of hD11) (DpAll.ext eBi (dp_pairs hws))) sC
              refine ⟨_, _, rfl, s6.dp, s6.sh, s6.nd, s6.dt, s6.ln, rfl, _, rfl, ?_⟩
              refine iteNS rfl ?_
              -- if False in [..]
              refine un_next ?_
              dsimp only
              refine un_if (un_test (un_op (un_c ?_)))
              refine go_L (el_map (a := p1) (xs := ps.map V.int) (ys := ps.map fun _ => V.bl true) (ev_var rfl) (SqL.of (W11.ex _ _ hB31)) (by rw [List.length_map]; omega) (by simp) (fun _ => rfl) (fun i x y H1 e1 hx hy => ?_)) (fun u5 H12 hu5 e12 h12' => ?_)
              · rw [List.getElem?_map] at hx hy
                cases hpi : ps[i]? with
                | none => rw [hpi] at hx; cases hx
                | some z =>
                  rw [hpi] at hx hy
                  obtain rfl := Option.some.inj hx
                  obtain rfl := Option.some.inj hy
                  exact fun H2 e2 Q q => ⟨_, rfl, _, rfl, _, rfl, n, p2, B3, ps, qs, rs, ts, z, rfl, W11.ex.trans (e1.trans e2), hN, hB32, hrs3, hP, hR, List.mem_of_getElem? hpi, fun H3 e3 => q H3 e3⟩
              · refine ⟨u5, _, rfl, .inl (SqL.of h12'), rfl, ?_, _, rfl, ?_⟩
                · rw [List.all_map, List.all_eq_true]
                  exact fun _ _ => rfl
                · have ein : inV (.bl false) (ps.map fun _ => V.bl true) = false := by
                    unfold inV
                    rw [List.any_map, List.any_eq_false]
                    exact fun _ _ => Bool.false_ne_true
                  rw [ein]
                  exact iteF ⟨_, _, _, _, _, _, _, _, _, _, _, _, _, rfl, (W11.ext e12).st⟩
    · rintro σ H2 ⟨y2, y3, y4, y5, y6, y7, y8, y9, y10, y11, y12, y13, y14, rfl, st2⟩
      exact q H2
end
end K01

set_option maxHeartbeats 8000000
namespace K01
open PySem PySem.Spec PyProof.Rows L2 Evl MyG
/-! ### what the top has written -/
theorem all_mk {l : PySem.W.OpenLaw} {w : World} {K : PySem.W.Frag} {h : Heap} {mg : Str → Option Value} {fa : Addr} (X : K.In h) (G : h.Ns mainGlobals mg) (hfa : mg "law" = some (.ref fa))
    {C_Net : Addr}
    {f_l_state : Addr} {od_l_state an_l_state : Option Addr} {sl_l_state : Array (Option Value)} {oc_l_state kV_l_state dc_l_state pm_l_state cd_l_state ct_l_state : Value}
    {f_l_draw : Addr} {od_l_draw an_l_draw : Option Addr} {sl_l_draw : Array (Option Value)} {oc_l_draw kV_l_draw dc_l_draw pm_l_draw cd_l_draw ct_l_draw : Value}
    {f_l_places : Addr} {od_l_places an_l_places : Option Addr} {sl_l_places : Array (Option Value)} {oc_l_places kV_l_places dc_l_places pm_l_places cd_l_places ct_l_places : Value}
    {f_l_roads : Addr} {od_l_roads an_l_roads : Option Addr} {sl_l_roads : Array (Option Value)} {oc_l_roads kV_l_roads dc_l_roads pm_l_roads cd_l_roads ct_l_roads : Value}
    {f_l_beyond : Addr} {od_l_beyond an_l_beyond : Option Addr} {sl_l_beyond : Array (Option Value)} {oc_l_beyond kV_l_beyond dc_l_beyond pm_l_beyond cd_l_beyond ct_l_beyond : Value}
    {f_is_number : Addr} {od_is_number an_is_number : Option Addr} {sl_is_number : Array (Option Value)} {oc_is_number kV_is_number dc_is_number pm_is_number cd_is_number ct_is_number : Value}
    {f__are_halls : Addr} {od__are_halls an__are_halls : Option Addr} {sl__are_halls : Array (Option Value)} {oc__are_halls kV__are_halls dc__are_halls pm__are_halls cd__are_halls ct__are_halls : Value}
    {f__is_link : Addr} {od__is_link an__is_link : Option Addr} {sl__is_link : Array (Option Value)} {oc__is_link kV__is_link dc__is_link pm__is_link cd__is_link ct__is_link : Value}
    {f__are_links : Addr} {od__are_links an__are_links : Option Addr} {sl__are_links : Array (Option Value)} {oc__are_links kV__are_links dc__are_links pm__are_links cd__are_links ct__are_links : Value}
    {f_Net___init__ : Addr} {od_Net___init__ an_Net___init__ : Option Addr} {sl_Net___init__ : Array (Option Value)} {oc_Net___init__ kV_Net___init__ dc_Net___init__ pm_Net___init__ cd_Net___init__ ct_Net___init__ : Value}
    {f_Net_halls : Addr} {od_Net_halls an_Net_halls : Option Addr} {sl_Net_halls : Array (Option Value)} {oc_Net_halls kV_Net_halls dc_Net_halls pm_Net_halls cd_Net_halls ct_Net_halls : Value}
    {f_Net_links : Addr} {od_Net_links an_Net_links : Option Addr} {sl_Net_links : Array (Option Value)} {oc_Net_links kV_Net_links dc_Net_links pm_Net_links cd_Net_links ct_Net_links : Value}
    {f_Net_most : Addr} {od_Net_most an_Net_most : Option Addr} {sl_Net_most : Array (Option Value)} {oc_Net_most kV_Net_most dc_Net_most pm_Net_most cd_Net_most ct_Net_most : Value}
    {f_Net_doors : Addr} {od_Net_doors an_Net_doors : Option Addr} {sl_Net_doors : Array (Option Value)} {oc_Net_doors kV_Net_doors dc_Net_doors pm_Net_doors cd_Net_doors ct_Net_doors : Value}
    {f_Net__link : Addr} {od_Net__link an_Net__link : Option Addr} {sl_Net__link : Array (Option Value)} {oc_Net__link kV_Net__link dc_Net__link pm_Net__link cd_Net__link ct_Net__link : Value}
    {f_Net_beyond : Addr} {od_Net_beyond an_Net_beyond : Option Addr} {sl_Net_beyond : Array (Option Value)} {oc_Net_beyond kV_Net_beyond dc_Net_beyond pm_Net_beyond cd_Net_beyond ct_Net_beyond : Value}
    {f_Net_cost : Addr} {od_Net_cost an_Net_cost : Option Addr} {sl_Net_cost : Array (Option Value)} {oc_Net_cost kV_Net_cost dc_Net_cost pm_Net_cost cd_Net_cost ct_Net_cost : Value}
    {f_l_doors_right : Addr} {od_l_doors_right an_l_doors_right : Option Addr} {sl_l_doors_right : Array (Option Value)} {oc_l_doors_right kV_l_doors_right dc_l_doors_right pm_l_doors_right cd_l_doors_right ct_l_doors_right : Value}
    {f_law : Addr} {od_law an_law : Option Addr} {sl_law : Array (Option Value)} {oc_law kV_law dc_law pm_law cd_law ct_law : Value}
    {t_MOST_HALLS : Tok}
    {t_MOST_LINKS : Tok}
    {t_LAST_HALL : Tok}
    {t_MOST_COST : Tok}
    (aC_Net : PySem.W.nsIn K mainGlobals "Net" = some (some (.ref C_Net)))
    (pg_Net : PySem.W.plainGet K C_Net Str.empty = true)
    (hd_Net : PySem.W.hasDictIn K C_Net = true)
    (po_Net : PySem.W.plainOver K C_Net = true)
    (sa_Net : PySem.W.findIn K (.ref C_Net) "__setattr__" = some (some (.builtin "object.__setattr__")))
    (mk_Net : PySem.W.makesIn K C_Net = true)
    (kc_Net : PySem.W.keepIn K (.ref C_Net) = true)
    (a_l_state : PySem.W.nsIn K mainGlobals "_law_state" = some (some (.ref f_l_state)))
    (l_l_state : K.lookup f_l_state = some ⟨oc_l_state, od_l_state, .func (PySem.W.fnOf "_law_state" "_law_state" (defArgs s_l_state) (defBody s_l_state) (defScope s_l_state) .none kV_l_state dc_l_state pm_l_state an_l_state cd_l_state ct_l_state), sl_l_state⟩)
    (c_l_state : PySem.W.codeIn K cd_l_state "_law_state" = true)
    (k_l_state : PySem.W.keepIn K (.ref f_l_state) = true)
    (a_l_draw : PySem.W.nsIn K mainGlobals "_law_draw" = some (some (.ref f_l_draw)))
    (l_l_draw : K.lookup f_l_draw = some ⟨oc_l_draw, od_l_draw, .func (PySem.W.fnOf "_law_draw" "_law_draw" (defArgs s_l_draw) (defBody s_l_draw) (defScope s_l_draw) .none kV_l_draw dc_l_draw pm_l_draw an_l_draw cd_l_draw ct_l_draw), sl_l_draw⟩)
    (c_l_draw : PySem.W.codeIn K cd_l_draw "_law_draw" = true)
    (k_l_draw : PySem.W.keepIn K (.ref f_l_draw) = true)
    (a_l_places : PySem.W.nsIn K mainGlobals "_law_places" = some (some (.ref f_l_places)))
    (l_l_places : K.lookup f_l_places = some ⟨oc_l_places, od_l_places, .func (PySem.W.fnOf "_law_places" "_law_places" (defArgs s_l_places) (defBody s_l_places) (defScope s_l_places) .none kV_l_places dc_l_places pm_l_places an_l_places cd_l_places ct_l_places), sl_l_places⟩)
    (c_l_places : PySem.W.codeIn K cd_l_places "_law_places" = true)
    (k_l_places : PySem.W.keepIn K (.ref f_l_places) = true)
    (a_l_roads : PySem.W.nsIn K mainGlobals "_law_roads" = some (some (.ref f_l_roads)))
    (l_l_roads : K.lookup f_l_roads = some ⟨oc_l_roads, od_l_roads, .func (PySem.W.fnOf "_law_roads" "_law_roads" (defArgs s_l_roads) (defBody s_l_roads) (defScope s_l_roads) .none kV_l_roads dc_l_roads pm_l_roads an_l_roads cd_l_roads ct_l_roads), sl_l_roads⟩)
    (c_l_roads : PySem.W.codeIn K cd_l_roads "_law_roads" = true)
    (k_l_roads : PySem.W.keepIn K (.ref f_l_roads) = true)
    (a_l_beyond : PySem.W.nsIn K mainGlobals "_law_beyond" = some (some (.ref f_l_beyond)))
    (l_l_beyond : K.lookup f_l_beyond = some ⟨oc_l_beyond, od_l_beyond, .func (PySem.W.fnOf "_law_beyond" "_law_beyond" (defArgs s_l_beyond) (defBody s_l_beyond) (defScope s_l_beyond) .none kV_l_beyond dc_l_beyond pm_l_beyond an_l_beyond cd_l_beyond ct_l_beyond), sl_l_beyond⟩)
    (c_l_beyond : PySem.W.codeIn K cd_l_beyond "_law_beyond" = true)
    (k_l_beyond : PySem.W.keepIn K (.ref f_l_beyond) = true)
    (a_is_number : PySem.W.nsIn K mainGlobals "is_number" = some (some (.ref f_is_number)))
    (l_is_number : K.lookup f_is_number = some ⟨oc_is_number, od_is_number, .func (PySem.W.fnOf "is_number" "is_number" (defArgs s_is_number) (defBody s_is_number) (defScope s_is_number) .none kV_is_number dc_is_number pm_is_number an_is_number cd_is_number ct_is_number), sl_is_number⟩)
    (c_is_number : PySem.W.codeIn K cd_is_number "is_number" = true)
    (k_is_number : PySem.W.keepIn K (.ref f_is_number) = true)
    (a__are_halls : PySem.W.nsIn K mainGlobals "_are_halls" = some (some (.ref f__are_halls)))
    (l__are_halls : K.lookup f__are_halls = some ⟨oc__are_halls, od__are_halls, .func (PySem.W.fnOf "_are_halls" "_are_halls" (defArgs s__are_halls) (defBody s__are_halls) (defScope s__are_halls) .none kV__are_halls dc__are_halls pm__are_halls an__are_halls cd__are_halls ct__are_halls), sl__are_halls⟩)
    (c__are_halls : PySem.W.codeIn K cd__are_halls "_are_halls" = true)
    (k__are_halls : PySem.W.keepIn K (.ref f__are_halls) = true)
    (a__is_link : PySem.W.nsIn K mainGlobals "_is_link" = some (some (.ref f__is_link)))
    (l__is_link : K.lookup f__is_link = some ⟨oc__is_link, od__is_link, .func (PySem.W.fnOf "_is_link" "_is_link" (defArgs s__is_link) (defBody s__is_link) (defScope s__is_link) .none kV__is_link dc__is_link pm__is_link an__is_link cd__is_link ct__is_link), sl__is_link⟩)
    (c__is_link : PySem.W.codeIn K cd__is_link "_is_link" = true)
    (k__is_link : PySem.W.keepIn K (.ref f__is_link) = true)
    (a__are_links : PySem.W.nsIn K mainGlobals "_are_links" = some (some (.ref f__are_links)))
    (l__are_links : K.lookup f__are_links = some ⟨oc__are_links, od__are_links, .func (PySem.W.fnOf "_are_links" "_are_links" (defArgs s__are_links) (defBody s__are_links) (defScope s__are_links) .none kV__are_links dc__are_links pm__are_links an__are_links cd__are_links ct__are_links), sl__are_links⟩)
    (c__are_links : PySem.W.codeIn K cd__are_links "_are_links" = true)
    (k__are_links : PySem.W.keepIn K (.ref f__are_links) = true)
    (a_Net___init__ : PySem.W.findIn K (.ref C_Net) "__init__" = some (some (.ref f_Net___init__)))
    (i_Net___init__ : PySem.W.isFn K (.ref f_Net___init__) = true)
    (l_Net___init__ : K.lookup f_Net___init__ = some ⟨oc_Net___init__, od_Net___init__, .func (PySem.W.fnOf "__init__" "Net.__init__" (defArgs s_Net___init__) (defBody s_Net___init__) (defScope s_Net___init__) .none kV_Net___init__ dc_Net___init__ pm_Net___init__ an_Net___init__ cd_Net___init__ ct_Net___init__), sl_Net___init__⟩)
    (c_Net___init__ : PySem.W.codeIn K cd_Net___init__ "Net.__init__" = true)
    (k_Net___init__ : PySem.W.keepIn K (.ref f_Net___init__) = true)
    (a_Net_halls : PySem.W.findIn K (.ref C_Net) "halls" = some (some (.ref f_Net_halls)))
    (i_Net_halls : PySem.W.isFn K (.ref f_Net_halls) = true)
    (l_Net_halls : K.lookup f_Net_halls = some ⟨oc_Net_halls, od_Net_halls, .func (PySem.W.fnOf "halls" "Net.halls" (defArgs s_Net_halls) (defBody s_Net_halls) (defScope s_Net_halls) .none kV_Net_halls dc_Net_halls pm_Net_halls an_Net_halls cd_Net_halls ct_Net_halls), sl_Net_halls⟩)
    (c_Net_halls : PySem.W.codeIn K cd_Net_halls "Net.halls" = true)
    (k_Net_halls : PySem.W.keepIn K (.ref f_Net_halls) = true)
    (a_Net_links : PySem.W.findIn K (.ref C_Net) "links" = some (some (.ref f_Net_links)))
    (i_Net_links : PySem.W.isFn K (.ref f_Net_links) = true)
    (l_Net_links : K.lookup f_Net_links = some ⟨oc_Net_links, od_Net_links, .func (PySem.W.fnOf "links" "Net.links" (defArgs s_Net_links) (defBody s_Net_links) (defScope s_Net_links) .none kV_Net_links dc_Net_links pm_Net_links an_Net_links cd_Net_links ct_Net_links), sl_Net_links⟩)
    (c_Net_links : PySem.W.codeIn K cd_Net_links "Net.links" = true)
    (k_Net_links : PySem.W.keepIn K (.ref f_Net_links) = true)
    (a_Net_most : PySem.W.findIn K (.ref C_Net) "most" = some (some (.ref f_Net_most)))
    (i_Net_most : PySem.W.isFn K (.ref f_Net_most) = true)
    (l_Net_most : K.lookup f_Net_most = some ⟨oc_Net_most, od_Net_most, .func (PySem.W.fnOf "most" "Net.most" (defArgs s_Net_most) (defBody s_Net_most) (defScope s_Net_most) .none kV_Net_most dc_Net_most pm_Net_most an_Net_most cd_Net_most ct_Net_most), sl_Net_most⟩)
    (c_Net_most : PySem.W.codeIn K cd_Net_most "Net.most" = true)
    (k_Net_most : PySem.W.keepIn K (.ref f_Net_most) = true)
    (a_Net_doors : PySem.W.findIn K (.ref C_Net) "doors" = some (some (.ref f_Net_doors)))
    (i_Net_doors : PySem.W.isFn K (.ref f_Net_doors) = true)
    (l_Net_doors : K.lookup f_Net_doors = some ⟨oc_Net_doors, od_Net_doors, .func (PySem.W.fnOf "doors" "Net.doors" (defArgs s_Net_doors) (defBody s_Net_doors) (defScope s_Net_doors) .none kV_Net_doors dc_Net_doors pm_Net_doors an_Net_doors cd_Net_doors ct_Net_doors), sl_Net_doors⟩)
    (c_Net_doors : PySem.W.codeIn K cd_Net_doors "Net.doors" = true)
    (k_Net_doors : PySem.W.keepIn K (.ref f_Net_doors) = true)
    (a_Net__link : PySem.W.findIn K (.ref C_Net) "_link" = some (some (.ref f_Net__link)))
    (i_Net__link : PySem.W.isFn K (.ref f_Net__link) = true)
    (l_Net__link : K.lookup f_Net__link = some ⟨oc_Net__link, od_Net__link, .func (PySem.W.fnOf "_link" "Net._link" (defArgs s_Net__link) (defBody s_Net__link) (defScope s_Net__link) .none kV_Net__link dc_Net__link pm_Net__link an_Net__link cd_Net__link ct_Net__link), sl_Net__link⟩)
    (c_Net__link : PySem.W.codeIn K cd_Net__link "Net._link" = true)
    (k_Net__link : PySem.W.keepIn K (.ref f_Net__link) = true)
    (a_Net_beyond : PySem.W.findIn K (.ref C_Net) "beyond" = some (some (.ref f_Net_beyond)))
    (i_Net_beyond : PySem.W.isFn K (.ref f_Net_beyond) = true)
    (l_Net_beyond : K.lookup f_Net_beyond = some ⟨oc_Net_beyond, od_Net_beyond, .func (PySem.W.fnOf "beyond" "Net.beyond" (defArgs s_Net_beyond) (defBody s_Net_beyond) (defScope s_Net_beyond) .none kV_Net_beyond dc_Net_beyond pm_Net_beyond an_Net_beyond cd_Net_beyond ct_Net_beyond), sl_Net_beyond⟩)
    (c_Net_beyond : PySem.W.codeIn K cd_Net_beyond "Net.beyond" = true)
    (k_Net_beyond : PySem.W.keepIn K (.ref f_Net_beyond) = true)
    (a_Net_cost : PySem.W.findIn K (.ref C_Net) "cost" = some (some (.ref f_Net_cost)))
    (i_Net_cost : PySem.W.isFn K (.ref f_Net_cost) = true)
    (l_Net_cost : K.lookup f_Net_cost = some ⟨oc_Net_cost, od_Net_cost, .func (PySem.W.fnOf "cost" "Net.cost" (defArgs s_Net_cost) (defBody s_Net_cost) (defScope s_Net_cost) .none kV_Net_cost dc_Net_cost pm_Net_cost an_Net_cost cd_Net_cost ct_Net_cost), sl_Net_cost⟩)
    (c_Net_cost : PySem.W.codeIn K cd_Net_cost "Net.cost" = true)
    (k_Net_cost : PySem.W.keepIn K (.ref f_Net_cost) = true)
    (a_l_doors_right : PySem.W.nsIn K mainGlobals "_law_doors_right" = some (some (.ref f_l_doors_right)))
    (l_l_doors_right : K.lookup f_l_doors_right = some ⟨oc_l_doors_right, od_l_doors_right, .func (PySem.W.fnOf "_law_doors_right" "_law_doors_right" (defArgs s_l_doors_right) (defBody s_l_doors_right) (defScope s_l_doors_right) .none kV_l_doors_right dc_l_doors_right pm_l_doors_right an_l_doors_right cd_l_doors_right ct_l_doors_right), sl_l_doors_right⟩)
    (c_l_doors_right : PySem.W.codeIn K cd_l_doors_right "_law_doors_right" = true)
    (k_l_doors_right : PySem.W.keepIn K (.ref f_l_doors_right) = true)
    (a_law : PySem.W.nsIn K mainGlobals "law" = some (some (.ref f_law)))
    (l_law : K.lookup f_law = some ⟨oc_law, od_law, .func (PySem.W.fnOf "law" "law" (defArgs s_law) (defBody s_law) (defScope s_law) .none kV_law dc_law pm_law an_law cd_law ct_law), sl_law⟩)
    (c_law : PySem.W.codeIn K cd_law "law" = true)
    (k_law : PySem.W.keepIn K (.ref f_law) = true)
    (na_Net__handed : PySem.W.findIn K (.ref C_Net) "_handed" = some none)
    (na_Net__rising : PySem.W.findIn K (.ref C_Net) "_rising" = some none)
    (na_Net__links : PySem.W.findIn K (.ref C_Net) "_links" = some none)
    (z_abs : PySem.W.nsIn K mainGlobals "abs" = some none)
    (z_len : PySem.W.nsIn K mainGlobals "len" = some none)
    (z_range : PySem.W.nsIn K mainGlobals "range" = some none)
    (z_list : PySem.W.nsIn K mainGlobals "list" = some none)
    (z_repr : PySem.W.nsIn K mainGlobals "repr" = some none)
    (z_sorted : PySem.W.nsIn K mainGlobals "sorted" = some none)
    (z_sum : PySem.W.nsIn K mainGlobals "sum" = some none)
    (z_all : PySem.W.nsIn K mainGlobals "all" = some none)
    (z_isinstance : PySem.W.nsIn K mainGlobals "isinstance" = some none)
    (z_set : PySem.W.nsIn K mainGlobals "set" = some none)
    (z_tuple : PySem.W.nsIn K mainGlobals "tuple" = some none)
    (z_int : PySem.W.nsIn K mainGlobals "int" = some none)
    (z_bool : PySem.W.nsIn K mainGlobals "bool" = some none)
    (z_enumerate : PySem.W.nsIn K mainGlobals "enumerate" = some none)
    (v_MOST_HALLS : PySem.W.nsIn K mainGlobals "MOST_HALLS" = some (some (.int (8) t_MOST_HALLS)))
    (v_MOST_LINKS : PySem.W.nsIn K mainGlobals "MOST_LINKS" = some (some (.int (12) t_MOST_LINKS)))
    (v_LAST_HALL : PySem.W.nsIn K mainGlobals "LAST_HALL" = some (some (.int (999) t_LAST_HALL)))
    (v_MOST_COST : PySem.W.nsIn K mainGlobals "MOST_COST" = some (some (.int (30) t_MOST_COST))) :
    ∃ fd : FuncData, (∀ (s : Shared) (v : Value), BindsTo s fd ⟨[v], []⟩ [("_law_script", v)]) ∧ ∀ base : Heap, K.In base → base.Ns mainGlobals mg → FnOkG l.prog w K mg base CX0 7 fa fd ["_law_script"] (sp_law K) := by
  have e := hfa.symm.trans (PySem.W.mg_of X G a_law)
  cases e
  have F_l_state := fun_mk (st := s_l_state) l_l_state c_l_state k_l_state
  have b_l_state := F_l_state.binds (ps := ["_law_script"]) fun _ _ _ _ _ _ us hl => match us, hl with | [_], _ => rfl
  have F_l_draw := fun_mk (st := s_l_draw) l_l_draw c_l_draw k_l_draw
  have b_l_draw := F_l_draw.binds (ps := ["_law_state_here", "_law_many"]) fun _ _ _ _ _ _ us hl => match us, hl with | [_, _], _ => rfl
  have F_l_places := fun_mk (st := s_l_places) l_l_places c_l_places k_l_places
  have b_l_places := F_l_places.binds (ps := ["_law_state_here"]) fun _ _ _ _ _ _ us hl => match us, hl with | [_], _ => rfl
  have F_l_roads := fun_mk (st := s_l_roads) l_l_roads c_l_roads k_l_roads
  have b_l_roads := F_l_roads.binds (ps := ["_law_state_here", "_law_places_here"]) fun _ _ _ _ _ _ us hl => match us, hl with | [_, _], _ => rfl
  have F_l_beyond := fun_mk (st := s_l_beyond) l_l_beyond c_l_beyond k_l_beyond
  have b_l_beyond := F_l_beyond.binds (ps := ["_law_row", "_law_place"]) fun _ _ _ _ _ _ us hl => match us, hl with | [_, _], _ => rfl
  have F_is_number := fun_mk (st := s_is_number) l_is_number c_is_number k_is_number
  have b_is_number := F_is_number.binds (ps := ["thing"]) fun _ _ _ _ _ _ us hl => match us, hl with | [_], _ => rfl
  have F__are_halls := fun_mk (st := s__are_halls) l__are_halls c__are_halls k__are_halls
  have b__are_halls := F__are_halls.binds (ps := ["things"]) fun _ _ _ _ _ _ us hl => match us, hl with | [_], _ => rfl
  have F__is_link := fun_mk (st := s__is_link) l__is_link c__is_link k__is_link
  have b__is_link := F__is_link.binds (ps := ["thing", "halls"]) fun _ _ _ _ _ _ us hl => match us, hl with | [_, _], _ => rfl
  have F__are_links := fun_mk (st := s__are_links) l__are_links c__are_links k__are_links
  have b__are_links := F__are_links.binds (ps := ["things", "halls"]) fun _ _ _ _ _ _ us hl => match us, hl with | [_, _], _ => rfl
  have F_Net___init__ := fun_mk (st := s_Net___init__) l_Net___init__ c_Net___init__ k_Net___init__
  have b_Net___init__ := F_Net___init__.binds (ps := ["self", "halls", "links"]) fun _ _ _ _ _ _ us hl => match us, hl with | [_, _, _], _ => rfl
  have F_Net_halls := fun_mk (st := s_Net_halls) l_Net_halls c_Net_halls k_Net_halls
  have b_Net_halls := F_Net_halls.binds (ps := ["self"]) fun _ _ _ _ _ _ us hl => match us, hl with | [_], _ => rfl
  have F_Net_links := fun_mk (st := s_Net_links) l_Net_links c_Net_links k_Net_links
  have b_Net_links := F_Net_links.binds (ps := ["self"]) fun _ _ _ _ _ _ us hl => match us, hl with | [_], _ => rfl
  have F_Net_most := fun_mk (st := s_Net_most) l_Net_most c_Net_most k_Net_most
  have b_Net_most := F_Net_most.binds (ps := ["self"]) fun _ _ _ _ _ _ us hl => match us, hl with | [_], _ => rfl
  have F_Net_doors := fun_mk (st := s_Net_doors) l_Net_doors c_Net_doors k_Net_doors
  have b_Net_doors := F_Net_doors.binds (ps := ["self", "hall"]) fun _ _ _ _ _ _ us hl => match us, hl with | [_, _], _ => rfl
  have F_Net__link := fun_mk (st := s_Net__link) l_Net__link c_Net__link k_Net__link
  have b_Net__link := F_Net__link.binds (ps := ["self", "link"]) fun _ _ _ _ _ _ us hl => match us, hl with | [_, _], _ => rfl
  have F_Net_beyond := fun_mk (st := s_Net_beyond) l_Net_beyond c_Net_beyond k_Net_beyond
  have b_Net_beyond := F_Net_beyond.binds (ps := ["self", "link", "hall"]) fun _ _ _ _ _ _ us hl => match us, hl with | [_, _, _], _ => rfl
  have F_Net_cost := fun_mk (st := s_Net_cost) l_Net_cost c_Net_cost k_Net_cost
  have b_Net_cost := F_Net_cost.binds (ps := ["self", "link"]) fun _ _ _ _ _ _ us hl => match us, hl with | [_, _], _ => rfl
  have F_l_doors_right := fun_mk (st := s_l_doors_right) l_l_doors_right c_l_doors_right k_l_doors_right
  have b_l_doors_right := F_l_doors_right.binds (ps := ["_law_net", "_law_roads_here", "_law_place"]) fun _ _ _ _ _ _ us hl => match us, hl with | [_, _, _], _ => rfl
  have F_law := fun_mk (st := s_law) l_law c_law k_law
  have b_law := F_law.binds (ps := ["_law_script"]) fun _ _ _ _ _ _ us hl => match us, hl with | [_], _ => rfl
  let T : Tx K mg := {
    c_Net := C_Net,
    g_Net := PySem.W.mg_of X G aC_Net,
    cl_Net := ⟨pg_Net, hd_Net, po_Net, sa_Net⟩,
    a_l_state := f_l_state,
    d_l_state := _,
    F_l_state := F_l_state,
    b_l_state := b_l_state,
    g_l_state := PySem.W.mg_of X G a_l_state,
    a_l_draw := f_l_draw,
    d_l_draw := _,
    F_l_draw := F_l_draw,
    b_l_draw := b_l_draw,
    g_l_draw := PySem.W.mg_of X G a_l_draw,
    a_l_places := f_l_places,
    d_l_places := _,
    F_l_places := F_l_places,
    b_l_places := b_l_places,
    g_l_places := PySem.W.mg_of X G a_l_places,
    a_l_roads := f_l_roads,
    d_l_roads := _,
    F_l_roads := F_l_roads,
    b_l_roads := b_l_roads,
    g_l_roads := PySem.W.mg_of X G a_l_roads,
    a_l_beyond := f_l_beyond,
    d_l_beyond := _,
    F_l_beyond := F_l_beyond,
    b_l_beyond := b_l_beyond,
    g_l_beyond := PySem.W.mg_of X G a_l_beyond,
    a_is_number := f_is_number,
    d_is_number := _,
    F_is_number := F_is_number,
    b_is_number := b_is_number,
    g_is_number := PySem.W.mg_of X G a_is_number,
    a__are_halls := f__are_halls,
    d__are_halls := _,
    F__are_halls := F__are_halls,
    b__are_halls := b__are_halls,
    g__are_halls := PySem.W.mg_of X G a__are_halls,
    a__is_link := f__is_link,
    d__is_link := _,
    F__is_link := F__is_link,
    b__is_link := b__is_link,
    g__is_link := PySem.W.mg_of X G a__is_link,
    a__are_links := f__are_links,
    d__are_links := _,
    F__are_links := F__are_links,
    b__are_links := b__are_links,
    g__are_links := PySem.W.mg_of X G a__are_links,
    a_Net___init__ := f_Net___init__,
    d_Net___init__ := _,
    F_Net___init__ := F_Net___init__,
    b_Net___init__ := b_Net___init__,
    m_Net := ⟨mk_Net, a_Net___init__, i_Net___init__, kc_Net⟩,
    kb_Net___init___links_halls := kbn_of F_Net___init__ (fun kV doc pm an cdv ct us ws l1 l2 => match us, l1, ws, l2 with | [_], _, [_, _], _ => rfl) perm_rel_1_0,
    a_Net_halls := f_Net_halls,
    d_Net_halls := _,
    F_Net_halls := F_Net_halls,
    b_Net_halls := b_Net_halls,
    me_Net_halls := ⟨a_Net_halls, i_Net_halls, k_Net_halls⟩,
    a_Net_links := f_Net_links,
    d_Net_links := _,
    F_Net_links := F_Net_links,
    b_Net_links := b_Net_links,
    me_Net_links := ⟨a_Net_links, i_Net_links, k_Net_links⟩,
    a_Net_most := f_Net_most,
    d_Net_most := _,
    F_Net_most := F_Net_most,
    b_Net_most := b_Net_most,
    me_Net_most := ⟨a_Net_most, i_Net_most, k_Net_most⟩,
    a_Net_doors := f_Net_doors,
    d_Net_doors := _,
    F_Net_doors := F_Net_doors,
    b_Net_doors := b_Net_doors,
    me_Net_doors := ⟨a_Net_doors, i_Net_doors, k_Net_doors⟩,
    kb_Net_doors_hall := kbn_of F_Net_doors (fun kV doc pm an cdv ct us ws l1 l2 => match us, l1, ws, l2 with | [_], _, [_], _ => rfl) perm_rel_0,
    a_Net__link := f_Net__link,
    d_Net__link := _,
    F_Net__link := F_Net__link,
    b_Net__link := b_Net__link,
    me_Net__link := ⟨a_Net__link, i_Net__link, k_Net__link⟩,
    a_Net_beyond := f_Net_beyond,
    d_Net_beyond := _,
    F_Net_beyond := F_Net_beyond,
    b_Net_beyond := b_Net_beyond,
    me_Net_beyond := ⟨a_Net_beyond, i_Net_beyond, k_Net_beyond⟩,
    kb_Net_beyond_hall_link := kbn_of F_Net_beyond (fun kV doc pm an cdv ct us ws l1 l2 => match us, l1, ws, l2 with | [_], _, [_, _], _ => rfl) perm_rel_1_0,
    a_Net_cost := f_Net_cost,
    d_Net_cost := _,
    F_Net_cost := F_Net_cost,
    b_Net_cost := b_Net_cost,
    me_Net_cost := ⟨a_Net_cost, i_Net_cost, k_Net_cost⟩,
    kb_Net_cost_link := kbn_of F_Net_cost (fun kV doc pm an cdv ct us ws l1 l2 => match us, l1, ws, l2 with | [_], _, [_], _ => rfl) perm_rel_0,
    a_l_doors_right := f_l_doors_right,
    d_l_doors_right := _,
    F_l_doors_right := F_l_doors_right,
    b_l_doors_right := b_l_doors_right,
    g_l_doors_right := PySem.W.mg_of X G a_l_doors_right,
    a_law := _,
    d_law := _,
    F_law := F_law,
    b_law := b_law,
    g_law := PySem.W.mg_of X G a_law,
    n_Net__handed := na_Net__handed,
    n_Net__rising := na_Net__rising,
    n_Net__links := na_Net__links,
    z_abs := PySem.W.mg_none_of X G z_abs,
    z_len := PySem.W.mg_none_of X G z_len,
    z_range := PySem.W.mg_none_of X G z_range,
    z_list := PySem.W.mg_none_of X G z_list,
    z_repr := PySem.W.mg_none_of X G z_repr,
    z_sorted := PySem.W.mg_none_of X G z_sorted,
    z_sum := PySem.W.mg_none_of X G z_sum,
    z_all := PySem.W.mg_none_of X G z_all,
    z_isinstance := PySem.W.mg_none_of X G z_isinstance,
    z_set := PySem.W.mg_none_of X G z_set,
    z_tuple := PySem.W.mg_none_of X G z_tuple,
    z_int := PySem.W.mg_none_of X G z_int,
    z_bool := PySem.W.mg_none_of X G z_bool,
    z_enumerate := PySem.W.mg_none_of X G z_enumerate,
    t_MOST_HALLS := t_MOST_HALLS,
    v_MOST_HALLS := PySem.W.mg_of X G v_MOST_HALLS,
    t_MOST_LINKS := t_MOST_LINKS,
    v_MOST_LINKS := PySem.W.mg_of X G v_MOST_LINKS,
    t_LAST_HALL := t_LAST_HALL,
    v_LAST_HALL := PySem.W.mg_of X G v_LAST_HALL,
    t_MOST_COST := t_MOST_COST,
    v_MOST_COST := PySem.W.mg_of X G v_MOST_COST }
  exact ⟨_, fun s v => .of_eq rfl, fun base _ _ => ok_law T⟩
end K01
open PySem PySem.W PyProof.Rows
set_option maxHeartbeats 0 in
theorem PySem.Challenge.cw_ringless_k01_nets_made_holds : PySem.Challenge.rw_ringless_k01_nets_made.Holds := by
  w_on; o_law; k_head; (case hw => w_witness2)
  k_fill
  refine MyG.walk_ofG (l := PySem.Challenge.rw_ringless_k01_nets_made) (n := 63) (k := 7) (x := "_law_script") (CX := fun _ => L2.CX0) (sp := fun w => K01.sp_law _) rfl (by decide) rfl ⟨rfl, by decide, by decide⟩ (fun w h Y => PySem.W.kIn_of Y) ?F (fun w H a ns hl _ hS => K01.law_start _ _ _ _ hl hS) (fun _ _ _ _ _ h => h)
  case F =>
    intro w mg fa h KX G hmg
    refine' K01.all_mk KX G hmg ?aC_Net ?pg_Net ?hd_Net ?po_Net ?sa_Net ?mk_Net ?kc_Net ?a_l_state ?l_l_state ?c_l_state ?k_l_state ?a_l_draw ?l_l_draw ?c_l_draw ?k_l_draw ?a_l_places ?l_l_places ?c_l_places ?k_l_places ?a_l_roads ?l_l_roads ?c_l_roads ?k_l_roads ?a_l_beyond ?l_l_beyond ?c_l_beyond ?k_l_beyond ?a_is_number ?l_is_number ?c_is_number ?k_is_number ?a__are_halls ?l__are_halls ?c__are_halls ?k__are_halls ?a__is_link ?l__is_link ?c__is_link ?k__is_link ?a__are_links ?l__are_links ?c__are_links ?k__are_links ?a_Net___init__ ?i_Net___init__ ?l_Net___init__ ?c_Net___init__ ?k_Net___init__ ?a_Net_halls ?i_Net_halls ?l_Net_halls ?c_Net_halls ?k_Net_halls ?a_Net_links ?i_Net_links ?l_Net_links ?c_Net_links ?k_Net_links ?a_Net_most ?i_Net_most ?l_Net_most ?c_Net_most ?k_Net_most ?a_Net_doors ?i_Net_doors ?l_Net_doors ?c_Net_doors ?k_Net_doors ?a_Net__link ?i_Net__link ?l_Net__link ?c_Net__link ?k_Net__link ?a_Net_beyond ?i_Net_beyond ?l_Net_beyond ?c_Net_beyond ?k_Net_beyond ?a_Net_cost ?i_Net_cost ?l_Net_cost ?c_Net_cost ?k_Net_cost ?a_l_doors_right ?l_l_doors_right ?c_l_doors_right ?k_l_doors_right ?a_law ?l_law ?c_law ?k_law ?na_Net__handed ?na_Net__rising ?na_Net__links ?z_abs ?z_len ?z_range ?z_list ?z_repr ?z_sorted ?z_sum ?z_all ?z_isinstance ?z_set ?z_tuple ?z_int ?z_bool ?z_enumerate ?v_MOST_HALLS ?v_MOST_LINKS ?v_LAST_HALL ?v_MOST_COST
    (case aC_Net => k_is)
    (case pg_Net => k_is)
    (case hd_Net => k_is)
    (case po_Net => k_is)
    (case sa_Net => k_is)
    (case mk_Net => k_is)
    (case kc_Net => k_is)
    (case a_l_state => k_is)
    (case l_l_state => k_is)
    (case c_l_state => k_is)
    (case k_l_state => k_is)
    (case a_l_draw => k_is)
    (case l_l_draw => k_is)
    (case c_l_draw => k_is)
    (case k_l_draw => k_is)
    (case a_l_places => k_is)
    (case l_l_places => k_is)
    (case c_l_places => k_is)
    (case k_l_places => k_is)
    (case a_l_roads => k_is)
    (case l_l_roads => k_is)
    (case c_l_roads => k_is)
    (case k_l_roads => k_is)
    (case a_l_beyond => k_is)
    (case l_l_beyond => k_is)
    (case c_l_beyond => k_is)
    (case k_l_beyond => k_is)
    (case a_is_number => k_is)
    (case l_is_number => k_is)
    (case c_is_number => k_is)
    (case k_is_number => k_is)
    (case a__are_halls => k_is)
    (case l__are_halls => k_is)
    (case c__are_halls => k_is)
    (case k__are_halls => k_is)
    (case a__is_link => k_is)
    (case l__is_link => k_is)
    (case c__is_link => k_is)
    (case k__is_link => k_is)
    (case a__are_links => k_is)
    (case l__are_links => k_is)
    (case c__are_links => k_is)
    (case k__are_links => k_is)
    (case a_Net___init__ => k_is)
    (case i_Net___init__ => k_is)
    (case l_Net___init__ => k_is)
    (case c_Net___init__ => k_is)
    (case k_Net___init__ => k_is)
    (case a_Net_halls => k_is)
    (case i_Net_halls => k_is)
    (case l_Net_halls => k_is)
    (case c_Net_halls => k_is)
    (case k_Net_halls => k_is)
    (case a_Net_links => k_is)
    (case i_Net_links => k_is)
    (case l_Net_links => k_is)
    (case c_Net_links => k_is)
    (case k_Net_links => k_is)
    (case a_Net_most => k_is)
    (case i_Net_most => k_is)
    (case l_Net_most => k_is)
    (case c_Net_most => k_is)
    (case k_Net_most => k_is)
    (case a_Net_doors => k_is)
    (case i_Net_doors => k_is)
    (case l_Net_doors => k_is)
    (case c_Net_doors => k_is)
    (case k_Net_doors => k_is)
    (case a_Net__link => k_is)
    (case i_Net__link => k_is)
    (case l_Net__link => k_is)
    (case c_Net__link => k_is)
    (case k_Net__link => k_is)
    (case a_Net_beyond => k_is)
    (case i_Net_beyond => k_is)
    (case l_Net_beyond => k_is)
    (case c_Net_beyond => k_is)
    (case k_Net_beyond => k_is)
    (case a_Net_cost => k_is)
    (case i_Net_cost => k_is)
    (case l_Net_cost => k_is)
    (case c_Net_cost => k_is)
    (case k_Net_cost => k_is)
    (case a_l_doors_right => k_is)
    (case l_l_doors_right => k_is)
    (case c_l_doors_right => k_is)
    (case k_l_doors_right => k_is)
    (case a_law => k_is)
    (case l_law => k_is)
    (case c_law => k_is)
    (case k_law => k_is)
    (case na_Net__handed => k_is)
    (case na_Net__rising => k_is)
    (case na_Net__links => k_is)
    (case z_abs => k_is)
    (case z_len => k_is)
    (case z_range => k_is)
    (case z_list => k_is)
    (case z_repr => k_is)
    (case z_sorted => k_is)
    (case z_sum => k_is)
    (case z_all => k_is)
    (case z_isinstance => k_is)
    (case z_set => k_is)
    (case z_tuple => k_is)
    (case z_int => k_is)
    (case z_bool => k_is)
    (case z_enumerate => k_is)
    (case v_MOST_HALLS => k_is)
    (case v_MOST_LINKS => k_is)
    (case v_LAST_HALL => k_is)
    (case v_MOST_COST => k_is)
