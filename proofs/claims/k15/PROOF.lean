import PyProof.Rows.All
import Wide.All
import OpenK.AllK
import Wide.FinOn
import HandS.ForMost
import HandS.Evl
import HandS.MakeKw
import HandS.MakeKwOnly
import HandS.IsInst
import PyProof.ReprRoads
import HandS.Zip
import PyProof.Rows.SetFrom
import PyProof.ReprLen
import HandS.OwnEq
import PyProof.NeKinds
import HandS.Style
import KE.KSortedM
import HandS.Flow
import HandS.TupAny
import PySem.Challenge.RW_ringless_k15_letters_told
set_option Elab.async false
set_option linter.all false
set_option maxRecDepth 100000
set_option maxHeartbeats 2000000
/-! My own additions to the hand layer: defs that know that no repr is under way (so that they may call repr), repr of data, a method called by keywords alone. -/
namespace MyG
open PySem PySem.Spec PyProof.Rows L2

/-- a promise that is kept where no guarded call is under way -/
structure FnOkG (P : Program) (w : World) (K : PySem.W.Frag) (mg : Str → Option Value) (base : Heap) (CX : CXT) (k : Nat) (f : Addr) (fd : FuncData) (ps : List Str) (sp : Sp) : Prop where
  lenG : ∀ vs H Q E, sp vs H Q E → vs.length = ps.length
  runG : ∀ (A : Around) (fr : List Env) (s : Shared) (H : Hp) (as : Args) (us : List Value) (vs : List V) (Q : VK) (E : XK), A.guards = some [] → Room k A → Env0 P w K mg base A fr s H →
    BindsTo s fd as (ps.zip us) → Vals vs us → sp vs H Q E → codeAny (model P w) A (.call (.ref f) as) (CR CX fr P w H s Q E) s

section
variable {P : Program} {w : World} {K : PySem.W.Frag} {mg : Str → Option Value} {base : Heap} {CX : CXT} {k : Nat} {f : Addr} {fd : FuncData} {ps N : List Str} {sp : Sp} {x q : Str} {st : Stmt}
theorem FnOkG.of (F : FnOk P w K mg base CX k f fd ps sp) : FnOkG P w K mg base CX k f fd ps sp :=
  ⟨F.len, fun A fr s H as us vs Q E _ => F.run A fr s H as us vs Q E⟩

/-- a def's body, where no guarded call is under way: for defs from which nothing is raised -/
theorem okG (F : Fun K x q st f fd) (S : FnScope N ps (defScope st)) (hlen : ∀ vs H Q E, sp vs H Q E → vs.length = ps.length)
    (hbody : ∀ (cdv : Value) (A : Around) (fr : List Env) (s : Shared) (H : Hp) (vs : List V) (Q : VK) (E : XK), (A.deeper (envOfC q (defScope st) s.heap.objs.size f cdv)).guards = some [] →
      Room k (A.deeper (envOfC q (defScope st) s.heap.objs.size f cdv)) → sp vs H Q E →
      ∃ t, PSs (cxOf CX0 P w K mg base N q (defScope st) f cdv A fr s H E).nox (defBody st) t ∧ t { nx := fun _ H' => Q .non H', rt := Q } (start N vs) H) :
    FnOkG P w K mg base CX0 (k + 1) f fd ps sp := by
  obtain ⟨oc, od, kV, doc, pm, an, cdv, ct, osl, hfd, hlook, hcode⟩ := F.ex
  subst hfd
  constructor
  · exact hlen
  intro A fr s H as us vs Q E hgd room e0 hbind rel hs
  have kin : K.In s.heap := e0.mod.kin.keeps (fun b o h => (e0.bs b o h).1)
  have nol : s.heap.NoLimit := e0.mod.nolimit.keeps (fun b o h => (e0.bs b o h).1)
  have params : ∀ y ∈ ps.zip us, (defScope st).names.lookup y.1 = some .local ∨ ((defScope st).names.lookup y.1 = some .cell ∧ ((cellsFrom (s.heap.objs.size + 1) (defScope st).names []).lookup y.1).isSome = true) := by
    intro y hy
    have hy1 : y.1 ∈ ps := (List.of_mem_zip (show (y.1, y.2) ∈ ps.zip us from hy)).1
    cases S.par y.1 hy1 with
    | inl h => exact Or.inl h
    | inr h => exact Or.inr ⟨h, PySem.W.cellsFrom_some _ _ _ (Or.inl h)⟩
  refine codeAny_call_function room.depth (kin _ _ hlook) rfl S.co S.gen rfl (PySem.W.codeRec_of kin hcode) (hbind _ _ _ _ ?_)
  refine wpAny_newFunctionEnv_cells S.kind params (fun env henv s1 hin => ?_)
  subst henv
  obtain ⟨t, hterm, hread⟩ := hbody cdv A fr s H vs Q E hgd (room.deeper _) hs
  have inv := inv_start (CX := CX0) (E := E) S room.hd e0 (hlen _ _ _ _ hs) rel hin
  refine ⟨nol.keeps hin.toInCall.keep, codeAny_func (wpAny_mono (hterm.nox.run [] s1 (start N vs) H _ inv hread) ?_ (fun _ _ h => h))⟩
  intro fl s' hsp
  match fl, hsp with
  | .ret u, hsp =>
    obtain ⟨v, σ', H', J, rv, hq⟩ := hsp
    exact ⟨v, H', J.os, J.bare, J.base, J.hok, rv, hq⟩
  | .next, hsp =>
    obtain ⟨σ', H', J, hq⟩ := hsp
    exact ⟨V.non, H', J.os, J.bare, J.base, J.hok, rfl, hq⟩
  | .brk, hsp => exact hsp.choose_spec.choose_spec.2.elim
  | .cont, hsp => exact hsp.choose_spec.choose_spec.2.elim
end

section
variable {X : Cx} {CX : CXT} {k : Nat} {f C : Addr} {fd : FuncData} {ps ks : List Str} {sp : Sp} {dvs : List V} {ds : List Value} {E : XK} {x m : Str} {p pos apos : Pos} {e o : Expr} {es : List Expr} {ta : TE} {t tk : TA} {kws : List Keyword}
  {g : List Value → List Value → List Value} {gV : List V → List V → List V}
theorem runG_fn {pins : List (Addr × Obj)} {σ : L2.St} {H : Hp} {s : Shared} {Q : VK} {us : List Value} {vs : List V} (F : FnOkG X.prog X.w X.K X.mg X.base CX k f fd ps sp) (hgd : X.A.guards = some []) (room : Room k X.A) (hb : Binds X.K fd ps ds)
    (hd : Vals dvs ds) (hx : Passes CX X E) (I : Inv X pins σ H s) (r : Vals vs us) (h : sp (vs ++ dvs) H Q E) : wpAny (model X.prog X.w) X.A (call (.ref f) us) (EP X pins σ Q) X.xe s := by
  have rel : Vals (vs ++ dvs) (us ++ ds) := r.append hd
  have hlen : (us ++ ds).length = ps.length := rel.length.symm.trans (F.lenG _ _ _ _ h)
  refine wpAny_call (codeAny_mono (F.runG X.A X.stack s H ⟨us, []⟩ (us ++ ds) (vs ++ dvs) Q E hgd room I.env0 (hb s us I.kIn hlen) rel h) (fun r s' hq => ?_))
  match r, hq with
  | .error e, hq => exact hx pins σ H s e s' I hq
  | .ok (.ret u), hq => exact I.after hq
/-- f(e, ..) -/
theorem pe_callG (F : FnOkG X.prog X.w X.K X.mg X.base CX k f fd ps sp) (hgd : X.A.guards = some []) (room : Room k X.A) (hg : Gl X x) (hm : X.mg x = some (.ref f)) (hk : PySem.W.keepIn X.K (.ref f) = true) (hb : Binds X.K fd ps ds) (hd : Vals dvs ds)
    (hx : Passes CX X E) (ha : PA X (e :: es) t) (hdb : (x == ("__debug__" : Str)) = false := by decide) (he : starEach (e :: es) X.env = (false, eval e X.env) :: starEach es X.env := by rfl)
    (hpl : (backTo pos (starEach es X.env)).any (·.1) = false := by rfl) : PE X (.Call (.Name x p) (e :: es) [] pos) (tCall sp dvs E t) := by
  constructor
  intro pins s σ H Q I h
  refine wpAny_Call_Name_kw (ld_glob I hg hm (PySem.W.callWith_K (h₀ := X.base) I.ok.mod.kin hk (thn (ha.run pos pins s σ H _ I h) ?_) he hpl) hdb)
  rintro us s1 ⟨vs, H1, I1, r, hq⟩
  exact ⟨I1.kIn, runG_fn F hgd room hb hd hx I1 r hq⟩

/-- o.m(k = v, ..): keywords alone -/
def tMethK (C : Addr) (m : Str) (n : Nat) (sp : Sp) (gV : List V → List V → List V) (E : XK) (ta : TE) (tk : TA) : TE := fun σ H Q => ta σ H fun x H1 => ∃ a dx fs, x = .ref a ∧ H1 a = some (.ins C dx fs) ∧ fs.lookup m = none ∧
  tk σ H1 fun zs H2 => zs.length = n ∧ sp (gV [x] zs) H2 Q E
theorem pe_methK0 {pl : Sem Bool} (he : PE X o ta) (c : Cls X.K C) (hm : Meth X.K C m f) (F : FnOk X.prog X.w X.K X.mg X.base CX k f fd ps sp) (room : Room k X.A) (hb : KBn X.K fd ps 1 ks g gV) (hx : Passes CX X E) (hkw : PK X kws tk)
    (hall : (backToKw pos (keywordEach kws X.env)).all (·.1.isSome) = true := by rfl) (hks : (backToKw pos (keywordEach kws X.env)).filterMap (·.1) = ks := by rfl)
    (hpl : ((backTo pos (starEach [] X.env)).any (·.1) || (backToKw pos (keywordEach kws X.env)).any (·.1.isNone)) = false := by rfl)
    (ht : eval (.Call (.Attribute o m apos) [] kws pos) X.env = (do
      let ov ← eval o X.env
      standAt apos.atName
      let (f, first) ← holding [ov] (getMethod ov m pl)
      callWith pos f first (backTo pos (starEach [] X.env)) (backToKw pos (keywordEach kws X.env))) := by rfl) :
    PE X (.Call (.Attribute o m apos) [] kws pos) (tMethK C m ks.length sp gV E ta tk) := by
  constructor
  intro pins s σ H Q I h
  refine PySem.W.methodCall_KW (pl := pl) (thn (he.run pins s σ H _ I h) ?_) ht
  rintro u s1 ⟨x, H1, I1, rx, a, dx, fs, ex, ea, l, hq⟩
  subst ex
  obtain rfl : u = Value.ref a := rx
  refine getmeth_ok I1 ea c hm l (PySem.W.callWith_KW0 (h₀ := X.base) I1.ok.mod.kin hm.kp hall (thn (hkw.run pos pins s1 σ H1 _ I1 hq) ?_) hpl)
  rintro ws s2 ⟨zs, H2, I2, rz, l2, hs⟩
  refine ⟨I2.kIn, ?_⟩
  rw [hks]
  exact run_fnN (us := [.ref a]) (vs := [.ref a]) F room hb hx I2 (.cons rfl .nil) rz rfl l2 hs
end

/-- how keywords bind, for a def without defaults -/
theorem kbn_of {K : PySem.W.Frag} {x q : Str} {st : Stmt} {f : Addr} {fd : FuncData} {ps ks : List Str} {n : Nat} {g : List Value → List Value → List Value} {gV : List V → List V → List V} (F : Fun K x q st f fd)
    (h : ∀ (kV doc pm : Value) (an : Option Addr) (cdv ct : Value) (us ws : List Value), us.length = n → ws.length = ks.length → bindArgs (PySem.W.fnOf x q (defArgs st) (defBody st) (defScope st) .none kV doc pm an cdv ct) ⟨us, ks.zip ws⟩ = pure (ps.zip (g us ws)))
    (rel : ∀ {vs : List V} {us : List Value} {zs : List V} {ws : List Value}, Vals vs us → Vals zs ws → Vals (gV vs zs) (g us ws)) : KBn K fd ps n ks g gV := by
  obtain ⟨oc, od, kV, doc, pm, an, cdv, ct, osl, hfd, hlook, hcode⟩ := F.ex
  subst hfd
  exact ⟨fun s us ws _ l1 l2 => .of_eq (h kV doc pm an cdv ct us ws l1 l2), rel⟩

/-! ### repr of data -/
section
variable {X : Cx}
def rReprD (K : PySem.W.Frag) : List V → Hp → VK → Prop := fun xs H Q => ∃ x d, xs = [x] ∧ Dp K H x d ∧ d.showable = true ∧ d.hasDict = false ∧ d.depth ≤ 40 ∧ d.shown.length ≤ sizeLine ∧ Q (.str d.shown) H
theorem call_reprD {k : Nat} (hgd : X.A.guards = some []) (room : Room k X.A) : CallR X (.builtin "repr") (rReprD X.K) := by
  intro pins s σ H xs us Q I r h
  obtain ⟨x, d, rfl, hd, hs, hnd, hdep, hsz, hq⟩ := h
  obtain ⟨u, rfl, rx⟩ := vals1 r
  have un := room.units
  have fin : ∀ h' v tk, (∀ b o, s.heap.get? b = some o → h'.get? b = some o) → EP X pins σ Q (.str d.shown v) { s with heap := h', toks := tk } := fun h' v tk kp => ⟨.str d.shown, H, I.kept kp, ⟨_, rfl⟩, hq⟩
  obtain ⟨as, rd⟩ := Dp.reads I d x u hd rx
  cases rd with
  | none => exact PySem.P.repr_of_none (fin s.heap _ _ fun _ _ e => e)
  | bool b => cases b <;> exact PySem.P.repr_of_bool (fin s.heap _ _ fun _ _ e => e)
  | int i t =>
    refine PySem.P.repr_of_int (by simpa [PyData.showable] using hs) (fin s.heap _ _ fun _ _ e => e)
  | str y t => exact PySem.P.repr_of_str (fin s.heap _ _ fun _ _ e => e) hsz
  | list h1 h2 h3 h4 => exact repr_of_reads' (.list h1 h2 h3 h4) hs (fun z => by rw [hnd] at z; cases z) hgd (by omega) (fun _ _ e => e) fin hsz
  | tuple h1 h2 h3 h4 => exact repr_of_reads' (.tuple h1 h2 h3 h4) hs (fun z => by rw [hnd] at z; cases z) hgd (by omega) (fun _ _ e => e) fin hsz
  | dict h1 h2 h3 h4 h5 => simp [PyData.hasDict] at hnd
end
end MyG

/-! ### the law's own call, and the end of a row -/
namespace MyG
open PySem PySem.Spec PyProof.Rows L2
section
variable {P : Program} {w : World} {K : PySem.W.Frag} {mg mb : Str → Option Value} {CX : CXT} {k : Nat} {fa a : Addr} {fd : FuncData} {x : Str} {sp : Sp} {s₁ : Shared} {vs : List Value} {ns : List Int}
/-- from one abstract heap that knows at most the script -/
theorem lawG_at (H : Hp) (KX : K.In s₁.heap) (hns : s₁.heap.Ns mainGlobals mg) (hb : s₁.heap.Ns builtinsNs mb) (hbb : ∀ x : Str, x ≠ "__name__" → mb x = bootBuiltins x) (hlim : s₁.heap.NoLimit) (hgen : s₁.gens = #[])
    (ha : s₁.heap.get? a = some { cls := .type "list", data := .seq vs.toArray }) (room : Room k callerA)
    (F : ∀ base : Heap, K.In base → base.Ns mainGlobals mg → FnOkG P w K mg base CX k fa fd [x] sp) (hbind : ∀ (s : Shared) (u : Value), BindsTo s fd ⟨[u], []⟩ [(x, u)])
    (hsp : sp [.ref a] H (fun v _ => v = .bl true) fun _ _ _ => False) (hCX : ∀ e s', CX [] H s₁ (fun _ _ _ => False) e s' → False)
    (only : Only H) (hok : HOk P w H s₁.heap) (hA : ∀ b, H b ≠ none → b = a) (hK : H a ≠ none → K.lookup a = none) :
    codeAny (model P w) callerA (.call (.ref fa) ⟨[.ref a], []⟩) (fun r s' => r = .ok (.ret (.bool true)) ∧ OldK s₁.heap s'.heap ∧ s'.os = s₁.os ∧ AllBare s'.gens) s₁ := by
  have free : ∀ b : Addr, b ≠ a → H b = none := fun b hb => by
    cases e : H b with
    | none => rfl
    | some u => exact absurd (hA b (by rw [e]; exact fun z => nomatch z)) hb
  have hid : ∀ {b : Addr} {o : Obj}, s₁.heap.get? b = some o → H b = none → (hidT s₁.heap H).get? b = some o := fun h1 h2 => hidT_get h1 h2
  have dictFree : ∀ {b : Addr} {o : Obj} {es : Array DictEntry} {ep : Nat}, s₁.heap.get? b = some o → o.data = .dict es ep → H b = none := by
    intro b o es ep h1 h2
    by_cases hb : b = a
    · rw [hb, ha] at h1
      obtain rfl := Option.some.inj h1
      exact absurd h2 (fun z => nomatch z)
    · exact free b hb
  have nsH : ∀ {b : Addr} {m : Str → Option Value}, s₁.heap.Ns b m → (hidT s₁.heap H).Ns b m := by
    rintro b m ⟨o, es, ep, h1, h2, h3⟩
    exact ⟨o, es, ep, hid h1 (dictFree h1 h2), h2, h3⟩
  have kin : K.In (hidT s₁.heap H) := by
    intro b o h1
    refine hid (KX b o h1) ?_
    by_cases hb : b = a
    · cases e : H a with
      | none => rw [hb]; exact e
      | some u =>
        have z := hK (by rw [e]; exact fun z => nomatch z)
        rw [hb, z] at h1
        cases h1
    · exact free b hb
  have md : Mod K mg (hidT s₁.heap H) := by
    obtain ⟨mc, l1, l2⟩ := hlim
    exact ⟨kin, nsH hns, ⟨mb, nsH hb, hbb⟩, ⟨mc, nsH l1, l2⟩⟩
  have env : Env0 P w K mg (hidT s₁.heap H) callerA [] s₁ H := { frames := rfl, mod := md, bs := fun b o h1 => of_hidT h1, bsz := Nat.le_of_eq (hidT_size _ _), funs := trivial, frf := fun b hb => (List.not_mem_nil hb).elim, hok := hok, bare := .of_eq hgen }
  refine codeAny_mono ((F _ kin (nsH hns)).runG callerA [] s₁ H ⟨[.ref a], []⟩ [.ref a] [.ref a] _ _ rfl room env (hbind s₁ (.ref a)) (.cons rfl .nil) hsp) ?_
  intro r s' hr
  match r, hr with
  | .error e, hr => exact (hCX e s' hr).elim
  | .ok (.ret u), hr =>
    obtain ⟨v, H', hos, hbare, un, hok', rv, hv⟩ := hr
    obtain rfl : v = V.bl true := hv
    obtain rfl : u = Value.bool true := rv
    refine ⟨rfl, OldK.of_keep ?_, hos, hbare⟩
    intro b o h1
    rcases only b with z | ⟨ob, xs, z⟩
    · exact un.keep b o h1 z (fun q => (List.not_mem_nil q).elim) (fun q => (List.not_mem_nil q).elim)
    · have e1 := (hok b _ z).1
      have e2 := (hok' b _ (un.frzs b ob _ z)).1
      rw [h1] at e1
      rw [Option.some.inj e1]
      exact e2
theorem law_callG (KX : K.In s₁.heap) (hns : s₁.heap.Ns mainGlobals mg) (hb : s₁.heap.Ns builtinsNs mb) (hbb : ∀ x : Str, x ≠ "__name__" → mb x = bootBuiltins x) (hlim : s₁.heap.NoLimit) (hgen : s₁.gens = #[])
    (ha : s₁.heap.get? a = some { cls := .type "list", data := .seq vs.toArray }) (hi : IntsAre vs ns) (hl : ns.length ≤ sizeLine) (room : Room k callerA)
    (F : ∀ base : Heap, K.In base → base.Ns mainGlobals mg → FnOkG P w K mg base CX k fa fd [x] sp) (hbind : ∀ (s : Shared) (u : Value), BindsTo s fd ⟨[u], []⟩ [(x, u)])
    (hsp : ∀ H : Hp, Only H → SqL K H a (ns.map V.int) → sp [.ref a] H (fun v _ => v = .bl true) fun _ _ _ => False) (hCX : ∀ H e s', CX [] H s₁ (fun _ _ _ => False) e s' → False) :
    codeAny (model P w) callerA (.call (.ref fa) ⟨[.ref a], []⟩) (fun r s' => r = .ok (.ret (.bool true)) ∧ OldK s₁.heap s'.heap ∧ s'.os = s₁.os ∧ AllBare s'.gens) s₁ := by
  have rv := vals_ints hi
  have lenV := hi.length
  cases hk : K.lookup a with
  | some o =>
    have e1 := KX a o hk
    rw [ha] at e1
    obtain rfl := Option.some.inj e1
    have only : Only (fun _ => none) := fun b => .inl rfl
    refine lawG_at (fun _ => none) KX hns hb hbb hlim hgen ha room F hbind (hsp _ only ?_) (hCX _) only (fun b u z => nomatch z) (fun b z => absurd rfl z) (fun z => absurd rfl z)
    exact .inr ⟨_, vs.toArray, _, hk, rfl, rfl, rfl, by rw [List.size_toArray, lenV]; exact hl, by simpa using rv⟩
  | none =>
    have at_a : ∀ {o : HO}, (fun b => if b = a then some o else none : Hp) a = some o := if_pos rfl
    have off_a : ∀ {o : HO} {b : Addr}, b ≠ a → (fun b => if b = a then some o else none : Hp) b = none := fun h => if_neg h
    have only : Only (fun b => if b = a then some (.frz { cls := .type "list", data := .seq vs.toArray } (.lst (ns.map V.int))) else none) := fun b => by
      by_cases hb : b = a
      · exact .inr ⟨_, _, by rw [hb]; exact at_a⟩
      · exact .inl (off_a hb)
    refine lawG_at _ KX hns hb hbb hlim hgen ha room F hbind (hsp _ only (.inl (.inr ⟨_, at_a⟩))) (hCX _) only ?_ ?_ (fun _ => hk)
    · intro b u z
      by_cases hb : b = a
      · subst hb
        obtain rfl := Option.some.inj (at_a.symm.trans z)
        exact ⟨ha, by rw [List.length_map]; exact hl, vs, _, rv, ha⟩
      · exact absurd ((off_a hb).symm.trans z) (fun q => nomatch q)
    · intro b z
      by_cases hb : b = a
      · exact hb
      · exact absurd (off_a hb) z
end
theorem walk_ofG {l : PySem.W.OpenLaw} {n k : Nat} {q : Program} {loose : List Str} {XP : (Str → Option Value) → Heap → Prop} {YP : World → Heap → Prop} {d : DefRec} {K : Params → PySem.W.Frag} {CX : World → CXT} {sp : World → Sp} {x : Str}
    (hn : l.most = some n) (hn2 : n ≤ sizeLine) (hdf : d.params.defaults = []) (room : Room k callerA) (hY : ∀ (w : World) (h : Heap), YP w h → (K w.params).In h)
    (F : ∀ (w : World) (mg : Str → Option Value) (fa : Addr) (h : Heap), (K w.params).In h → h.Ns mainGlobals mg → mg d.name = some (.ref fa) →
      ∃ fd : FuncData, (∀ (s : Shared) (u : Value), BindsTo s fd ⟨[u], []⟩ [(x, u)]) ∧ ∀ base : Heap, (K w.params).In base → base.Ns mainGlobals mg → FnOkG l.prog w (K w.params) mg base (CX w) k fa fd [x] (sp w))
    (hsp : ∀ (w : World) (H : Hp) (a : Addr) (ns : List Int), ns.length ≤ n → Only H → SqL (K w.params) H a (ns.map V.int) → sp w [.ref a] H (fun v _ => v = .bl true) fun _ _ _ => False)
    (hCX : ∀ (w : World) (H : Hp) (s : Shared) (e : Value) (s' : Shared), CX w [] H s (fun _ _ _ => False) e s' → False) : PySem.W.WalkO q loose XP YP l.row.toRowW d [] (fun f vs => PySem.call f vs) := by
  refine Att.attach_call hn hdf ?_
  intro w s₀ s₁ mg mb fa o pm cd doc a vs ns G Y ho hd hcd hmg hobj hints hlen hgen
  obtain ⟨fd, hbind, hF⟩ := F w mg fa _ (hY w _ Y) G.T.g hmg
  exact law_callG (hY w _ Y) G.T.g G.T.b G.T.builtins G.T.nolimit hgen hobj hints (Nat.le_trans hlen hn2) room hF hbind (hsp w · a ns hlen · ·) (fun H e s' => hCX w H s₁ e s')
end MyG

set_option maxHeartbeats 2000000
/-! len(set(xs)) of whole numbers, alike or not; what stands for a thing of any kind. -/
namespace MyG
open PySem PySem.Spec PyProof.Rows L2 Evl
theorem met_len {ns : List Int} : ∀ i, i ≤ ns.length → (firstMet (fun i => ns.getD i 0) i).length = i → (ns.take i).Nodup
  | 0, _, _ => by simp
  | i + 1, hi, h => by
    have hlt : i < ns.length := hi
    rw [firstMet_succ] at h
    unfold step_dedup at h
    have le := firstMet_length_le (fun i => ns.getD i 0) i
    by_cases c : (firstMet (fun i => ns.getD i 0) i).any (· == ns.getD i 0) = true
    · rw [if_pos c] at h
      omega
    · rw [if_neg c, List.length_append, List.length_singleton] at h
      have ih := met_len i (Nat.le_of_lt hlt) (by omega)
      rw [firstMet_any] at c
      rw [List.take_add_one, List.getElem?_eq_getElem hlt]
      show (ns.take i ++ [ns[i]]).Nodup
      rw [List.nodup_append]
      refine ⟨ih, by simp, fun a ha b hb e => c ?_⟩
      obtain rfl := List.mem_singleton.mp hb
      subst e
      rw [List.any_eq_true]
      obtain ⟨j, hj, ej⟩ := List.getElem_of_mem ha
      rw [List.length_take] at hj
      refine ⟨ns.getD j 0, List.mem_map.mpr ⟨j, List.mem_range.mpr (by omega), rfl⟩, ?_⟩
      rw [List.getElem_take] at ej
      rw [List.getD_eq_getElem?_getD, List.getD_eq_getElem?_getD, List.getElem?_eq_getElem hlt, List.getElem?_eq_getElem (by omega : j < ns.length)]
      show (ns[j] == ns[i]) = true
      rw [ej]
      exact beq_self_eq_true _
theorem met_iff (ns : List Int) : (firstMet (fun i => ns.getD i 0) ns.length).length = ns.length ↔ ns.Nodup := by
  constructor
  · intro h
    have z := met_len ns.length (Nat.le_refl _) h
    rwa [List.take_length] at z
  · intro h
    rw [RZ.firstMet_nodup h ns.length (Nat.le_refl _), List.take_length]
def tLenSetG (K : PySem.W.Frag) (ta : TE) : TE := fun σ H Q => ta σ H fun x H1 => ∃ (l : Addr) (ns : List Int), x = .ref l ∧ SqL K H1 l (ns.map V.int) ∧ ns.length ≤ 4000 ∧ ∀ n : Nat, (n = ns.length ↔ ns.Nodup) → Q (.int n) H1
theorem pe_lenSetG {X : Cx} {a : Expr} {ta : TE} {p p2 q pos : Pos} (hg : Gl X "len") (hm : X.mg "len" = none) (hg2 : Gl X "set") (hm2 : X.mg "set" = none) (ha : PE X a ta) (hc : X.calm = true := by rfl)
    (na : starEach [a] X.env = (false, eval a X.env) :: starEach [] X.env := by rfl) : PE X (.Call (.Name "len" p) [.Call (.Name "set" p2) [a] [] q] [] pos) (tLenSetG X.K ta) := by
  constructor
  intro pins s σ H Q I h
  refine Call_ (ld_blt I hg hm boot_len (callWith_builtin1 (args_cons ?_ rfl) rfl rfl))
  refine Call_ (ld_blt I hg2 hm2 boot_set (callWith_type1 (args_cons (thn (ha.run pins s σ H _ I h) ?_) na) na rfl))
  rintro v s1 ⟨x, H1, I1, r1, l, ns, rfl, hq, hl, q1⟩
  refine args_nil ?_
  cases r1
  obtain ⟨its, r, pl, hz⟩ := I1.list hq
  have size : its.toArray.size = ns.length := by rw [List.size_toArray, ← r.length, List.length_map]
  refine call_set_list (I1.ok.hd hc) pl.isList (ns := ns) (by simpa using r.ints) (by rw [size]; unfold scanBound; omega) (fun h' tk hS hk => args_nil ?_)
  rw [size] at hS
  have le := firstMet_length_le (fun i => ns.getD i 0) ns.length
  obtain ⟨o, es, ep, t, ho, hex, hd, _, _, _, hf, hn⟩ := hS
  have I2 : Inv X pins σ H1 { s1 with heap := h', toks := tk } := I1.kept fun b o e => hk b o (Heap.lt_size e) e
  exact call_len_set ho hex hd hf (by rw [hn]; omega) ⟨.int ((firstMet (fun i => ns.getD i 0) ns.length).length : Nat), H1, I2.tok _, ⟨_, by rw [hn]⟩, q1 _ (met_iff ns)⟩
/-! ### a thing of any kind, and its kind -/
inductive AnyT (H : Hp) : V → String → Prop
  | non : AnyT H .non "NoneType"
  | bl (b : Bool) : AnyT H (.bl b) "bool"
  | int (i : Int) : AnyT H (.int i) "int"
  | str (x : Str) : AnyT H (.str x) "str"
  | lst {a : Addr} {xs : List V} (h : H a = some (.lst xs)) : AnyT H (.ref a) "list"
  | tup {a : Addr} {xs : List V} (h : H a = some (.tup xs)) : AnyT H (.ref a) "tuple"
  | dK {a : Addr} {xs : List (Key × V)} (h : H a = some (.dK xs)) : AnyT H (.ref a) "dict"
theorem AnyT.ext {H H' : Hp} (e : Ex H H') {x : V} {t : String} (h : AnyT H x t) : AnyT H' x t := by
  cases h with
  | non => exact .non
  | bl b => exact .bl b
  | int i => exact .int i
  | str x => exact .str x
  | lst h => exact .lst (e _ _ h)
  | tup h => exact .tup (e _ _ h)
  | dK h => exact .dK (e _ _ h)
theorem AnyT.ty {K : PySem.W.Frag} {H : Hp} {x : V} {t : String} (h : AnyT H x t) : TyX K H x (.type t) := by
  cases h with
  | non => exact .base .non
  | bl b => exact .base (.bl b)
  | int i => exact .base (.int i)
  | str x => exact .base (.str x)
  | lst h => exact .base (.lst h)
  | tup h => exact .base (.tup h)
  | dK h => exact .base (.dK h)
abbrev kinds7 : List String := ["NoneType", "bool", "int", "str", "list", "tuple", "dict"]
theorem AnyT.mem {H : Hp} {x : V} {t : String} (h : AnyT H x t) : t ∈ kinds7 := by
  cases h <;> decide
theorem kit7 : (kinds7.all fun t => decide (kitB t "int" = some (t == "int" || t == "bool")) && decide (kitB t "bool" = some (t == "bool")) && decide (kitB t "list" = some (t == "list")) && decide (kitB t "tuple" = some (t == "tuple")) && decide (kitB t "str" = some (t == "str")) && decide (kitB t "dict" = some (t == "dict"))) = true := by decide +kernel
theorem kit_all {t : String} (h : t ∈ kinds7) : kitB t "int" = some (t == "int" || t == "bool") ∧ kitB t "bool" = some (t == "bool") ∧ kitB t "list" = some (t == "list") ∧ kitB t "tuple" = some (t == "tuple") ∧ kitB t "str" = some (t == "str") ∧ kitB t "dict" = some (t == "dict") := by
  have z := List.all_eq_true.mp kit7 t h
  simp only [Bool.and_eq_true, decide_eq_true_eq] at z
  exact ⟨z.1.1.1.1.1, z.1.1.1.1.2, z.1.1.1.2, z.1.1.2, z.1.2, z.2⟩
/-- isinstance(x, T) of a thing of any kind -/
theorem isi_int {K : PySem.W.Frag} {H : Hp} {x : V} {t : String} {Q : VK} (h : AnyT H x t) (q : Q (.bl (t == "int" || t == "bool")) H) : rIsi K [x, .ty "int"] H Q := ⟨x, .ty "int", .type t, .type "int", _, rfl, .ty _, h.ty, kit_ty (kit_all h.mem).1, q⟩
theorem isi_bool {K : PySem.W.Frag} {H : Hp} {x : V} {t : String} {Q : VK} (h : AnyT H x t) (q : Q (.bl (t == "bool")) H) : rIsi K [x, .ty "bool"] H Q := ⟨x, .ty "bool", .type t, .type "bool", _, rfl, .ty _, h.ty, kit_ty (kit_all h.mem).2.1, q⟩
theorem isi_list {K : PySem.W.Frag} {H : Hp} {x : V} {t : String} {Q : VK} (h : AnyT H x t) (q : Q (.bl (t == "list")) H) : rIsi K [x, .ty "list"] H Q := ⟨x, .ty "list", .type t, .type "list", _, rfl, .ty _, h.ty, kit_ty (kit_all h.mem).2.2.1, q⟩
theorem isi_tuple {K : PySem.W.Frag} {H : Hp} {x : V} {t : String} {Q : VK} (h : AnyT H x t) (q : Q (.bl (t == "tuple")) H) : rIsi K [x, .ty "tuple"] H Q := ⟨x, .ty "tuple", .type t, .type "tuple", _, rfl, .ty _, h.ty, kit_ty (kit_all h.mem).2.2.2.1, q⟩
theorem isi_str {K : PySem.W.Frag} {H : Hp} {x : V} {t : String} {Q : VK} (h : AnyT H x t) (q : Q (.bl (t == "str")) H) : rIsi K [x, .ty "str"] H Q := ⟨x, .ty "str", .type t, .type "str", _, rfl, .ty _, h.ty, kit_ty (kit_all h.mem).2.2.2.2.1, q⟩
theorem isi_dict {K : PySem.W.Frag} {H : Hp} {x : V} {t : String} {Q : VK} (h : AnyT H x t) (q : Q (.bl (t == "dict")) H) : rIsi K [x, .ty "dict"] H Q := ⟨x, .ty "dict", .type t, .type "dict", _, rfl, .ty _, h.ty, kit_ty (kit_all h.mem).2.2.2.2.2, q⟩
end MyG

set_option maxHeartbeats 2000000
/-! Data that can be shown and compared, by its size. -/
namespace MyG
open PySem PySem.Spec PyProof.Rows L2 Evl
/-- k: how deep, L: how long its text is at most -/
structure Small (d : PyData) (k L : Nat) : Prop where
  sh : d.showable = true
  nd : d.hasDict = false
  dp : d.depth ≤ k
  ln : d.shown.length ≤ L
  cl : d.canLay0 = true
structure SmallAll (ds : List PyData) (k L : Nat) : Prop where
  sh : PyData.showableAll ds = true
  nd : PyData.hasDictAll ds = false
  dp : PyData.depthAll ds ≤ k
  ln : ((PyData.shownAll ds).map (·.length)).sum ≤ ds.length * L
  ll : (PyData.shownAll ds).length = ds.length
  cl : PyData.canLayAll0 ds = true
theorem Small.all {k L : Nat} : ∀ {ds : List PyData}, (∀ d ∈ ds, Small d k L) → SmallAll ds k L
  | [], _ => ⟨rfl, rfl, Nat.zero_le _, Nat.zero_le _, rfl, rfl⟩
  | d :: ds, h => by
    have h1 := h d (List.mem_cons_self ..)
    have h2 := Small.all fun e he => h e (List.mem_cons_of_mem d he)
    refine ⟨?_, ?_, ?_, ?_, ?_, ?_⟩
    · simp only [PyData.showableAll, h1.sh, h2.sh, Bool.and_self]
    · simp only [PyData.hasDictAll, h1.nd, h2.nd, Bool.or_self]
    · simp only [PyData.depthAll]; exact Nat.max_le.mpr ⟨h1.dp, h2.dp⟩
    · have a := h1.ln
      have b := h2.ln
      simp only [PyData.shownAll, List.map_cons, List.sum_cons, List.length_cons]
      rw [Nat.add_mul, Nat.one_mul]
      omega
    · simp only [PyData.shownAll, List.length_cons, h2.ll]
    · simp only [PyData.canLayAll0, h1.cl, h2.cl, Bool.and_self]
theorem small_list {k L : Nat} {ds : List PyData} (h : ∀ d ∈ ds, Small d k L) : Small (.list ds) (k + 1) (ds.length * (L + 2) + 3) := by
  have a := Small.all h
  refine ⟨by simpa only [PyData.showable] using a.sh, by simpa only [PyData.hasDict] using a.nd, by simp only [PyData.depth]; have := a.dp; omega, ?_, by simpa only [PyData.canLay0] using a.cl⟩
  simp only [PyData.shown]
  have b := listText_len_le (PyData.shownAll ds)
  have c := a.ln
  rw [a.ll] at b
  rw [Nat.mul_add]
  omega
theorem small_tuple {k L : Nat} {ds : List PyData} (h : ∀ d ∈ ds, Small d k L) : Small (.tuple ds) (k + 1) (ds.length * (L + 2) + 3) := by
  have a := Small.all h
  refine ⟨by simpa only [PyData.showable] using a.sh, by simpa only [PyData.hasDict] using a.nd, by simp only [PyData.depth]; have := a.dp; omega, ?_, by simpa only [PyData.canLay0] using a.cl⟩
  simp only [PyData.shown]
  have b := tupleText_len_le (PyData.shownAll ds)
  have c := a.ln
  rw [a.ll] at b
  rw [Nat.mul_add]
  omega
theorem Small.mono {d : PyData} {k L k' L' : Nat} (h : Small d k L) (hk : k ≤ k') (hL : L ≤ L') : Small d k' L' := ⟨h.sh, h.nd, Nat.le_trans h.dp hk, Nat.le_trans h.ln hL, h.cl⟩
theorem Small.shaped {d : PyData} {k L : Nat} (h : Small d k L) (hk : k ≤ 64) : SeqAt.shaped d = true := by
  unfold SeqAt.shaped
  rw [h.cl, decide_eq_true (Nat.le_trans h.dp hk)]
  rfl
theorem small_int {i : Int} (h : i.natAbs < 10 ^ 9) : Small (.int i) 0 10 := by
  have h9 : i.natAbs < 2 ^ 1920 := Nat.lt_of_lt_of_le h (by decide +kernel)
  refine ⟨?_, rfl, Nat.le_refl _, ?_, rfl⟩
  · simp only [PyData.showable]
    refine decide_eq_true ?_
    by_cases z : i.natAbs = 0
    · rw [z]; decide
    · exact (Nat.log2_lt z).mpr h9
  · simp only [PyData.shown]
    have := int_text_length_le10 (a := i) (k := 9) (by decide) h
    rw [PySem.ofString_length]
    exact this
/-! ### data in a heap -/
theorem dp_ints {K : PySem.W.Frag} {H : Hp} : ∀ ns : List Int, DpAll K H (ns.map V.int) (ns.map PyData.int)
  | [] => .nil
  | n :: ns => .cons (.int n) (dp_ints ns)
mutual
theorem Dp.ext {K : PySem.W.Frag} {H H' : Hp} (e : Ex H H') : ∀ {v : V} {d : PyData}, Dp K H v d → Dp K H' v d
  | _, _, .non => .non
  | _, _, .bl b => .bl b
  | _, _, .int i => .int i
  | _, _, .str x => .str x
  | _, _, .lst h a => .lst (ex_l e h) (DpAll.ext e a)
  | _, _, .tup h a => .tup (ex_t e h) (DpAll.ext e a)
theorem DpAll.ext {K : PySem.W.Frag} {H H' : Hp} (e : Ex H H') : ∀ {vs : List V} {ds : List PyData}, DpAll K H vs ds → DpAll K H' vs ds
  | _, _, .nil => .nil
  | _, _, .cons h a => .cons (Dp.ext e h) (DpAll.ext e a)
end
theorem eqvAll_ints_nil {ns : List Int} : PyData.eqvAll (ns.map PyData.int) [] = ns.isEmpty := by
  cases ns with
  | nil => rfl
  | cons x r => rfl
theorem repr_ok {K : PySem.W.Frag} {x : V} {d : PyData} {H : Hp} {Q : VK} {k L : Nat} (h : Dp K H x d) (s : Small d k L) (hk : k ≤ 40) (hL : L ≤ 16000000) (q : Q (.str d.shown) H) : rReprD K [x] H Q :=
  ⟨x, d, rfl, h, s.sh, s.nd, Nat.le_trans s.dp hk, Nat.le_trans (Nat.le_trans s.ln hL) (by rw [sizeLine_eq]; decide), q⟩
end MyG

/-! ### one layer of a reading opened -/
namespace MyG
open PySem PySem.Spec PyProof.Rows L2 Evl
section
variable {σ : L2.St} {H : Hp} {Q : VK} {ta tb : TE} {t : TT} {tt tu : TS} {D : Ends} {g : TG} {as tr : TA}
theorem un_and (h : ta σ H fun x H1 => ∃ c, x = .bl c ∧ if c = true then tb σ H1 Q else Q (.bl false) H1) : tAndV ta tb σ H Q := h
theorem un_or (h : ta σ H fun x H1 => ∃ c, x = .bl c ∧ if c = true then Q (.bl true) H1 else tb σ H1 Q) : tOrV ta tb σ H Q := h
theorem un_cb {r : List V → Hp → VK → Prop} (h : as σ H fun vs H1 => r vs H1 Q) : tCB r as σ H Q := h
theorem un_call {sp : Sp} {dvs : List V} {E : XK} (h : as σ H fun vs H1 => sp (vs ++ dvs) H1 Q E) : tCall sp dvs E as σ H Q := h
theorem un_cons {R : List V → Hp → Prop} (h : ta σ H fun x H1 => tr σ H1 fun xs H2 => R (x :: xs) H2) : tCons ta tr σ H R := h
theorem un_op {r : R2} (h : ta σ H fun x H1 => tb σ H1 fun y H2 => r x y H2 Q) : tOp r ta tb σ H Q := h
theorem un_test {R : Bool → Hp → Prop} (h : ta σ H fun x H' => ∃ k, x = .bl k ∧ R k H') : tTest ta σ H R := h
theorem un_lst (h : as σ H fun xs H1 => xs.length ≤ sizeLine ∧ ∀ p, H1 p = none → Q (.ref p) (upd H1 p (.lst xs))) : tLst as σ H Q := h
theorem un_ret (h : ta σ H D.rt) : tRet ta D σ H := h
theorem un_asg (h : ta σ H fun x H1 => g x σ H1 D.nx) : tAsg ta g D σ H := h
theorem un_seq (h : tt { D with nx := tu D } σ H) : tSeq tt tu D σ H := h
theorem un_if (h : t σ H fun b H1 => if b = true then tt D σ H1 else tu D σ H1) : tIfS t tt tu D σ H := h
end
end MyG
namespace MyG
open PySem PySem.Spec PyProof.Rows L2 Evl
section
variable {σ : L2.St} {H : Hp} {ta : TE} {t : TT} {R : Bool → Hp → Prop}
theorem un_not (h : t σ H fun c H1 => R (!c) H1) : tNot t σ H R := h
theorem un_tB (h : ta σ H fun x H1 => ∃ c, x = .bl c ∧ R c H1) : tB ta σ H R := h
theorem un_c {v : V} {Q : VK} (h : Q v H) : tC v σ H Q := h
theorem un_next {D : Ends} (h : D.nx σ H) : tNext D σ H := h
theorem un_yes (h : R true H) : tYes σ H R := h
end
end MyG

/-! ### the layer's rules with the written part named (for the blocks of comprehensions) -/
namespace MyG
open PySem PySem.Spec PyProof.Rows L2 Evl
section
variable {X : Cx} {K : PySem.W.Frag}
def rLenQ (K : PySem.W.Frag) : List V → Hp → VK → Prop := fun xs H Q => ∃ p ys, xs = [.ref p] ∧ (SqL K H p ys ∨ SqT K H p ys) ∧ Q (.int ys.length) H
def rListQ (K : PySem.W.Frag) : List V → Hp → VK → Prop := fun xs H Q => ∃ p ys, xs = [.ref p] ∧ (SqL K H p ys ∨ SqT K H p ys) ∧ ∀ l, H l = none → Q (.ref l) (upd H l (.lst ys))
theorem ix_listK (h : X.K = K) : IxR X (rIxL K) := by subst h; exact ix_list
theorem ix_tupK (h : X.K = K) : IxR X (rIxT K) := by subst h; exact ix_tup
theorem op_inK (h : X.K = K) : OpR X (compareOp .In) (rIn K false) := by subst h; exact op_in_seq
theorem op_niK (h : X.K = K) : OpR X (compareOp .NotIn) (rIn K true) := by subst h; exact op_notIn_seq
theorem op_eqK (h : X.K = K) (hu : X.A.units + 64 < cLine) : OpR X (compareOp .Eq) (rEqD K) := by subst h; exact op_eqD hu
theorem op_neK (h : X.K = K) (hu : X.A.units + 64 < cLine) : OpR X (compareOp .NotEq) (rNeD K) := by subst h; exact op_neD hu
theorem sl_listK (h : X.K = K) : SlR X (rSlL K) := by subst h; exact sl_list
theorem sl_tupK (h : X.K = K) : SlR X (rSlT K) := by subst h; exact sl_tup
theorem catTK (h : X.K = K) : OpR X (binaryOp .Add) (rCatT K) := by subst h; exact op_catT
theorem lenK (h : X.K = K) : CallR X (.builtin "len") (rLenQ K) := by subst h; exact call_len_seq
theorem listK (h : X.K = K) : CallR X (.type "list") (rListQ K) := by subst h; exact call_list_of
theorem sumK (h : X.K = K) (hc : X.calm = true) : CallR X (.builtin "sum") (rSum K) := by subst h; exact cr_sum hc
theorem allK (h : X.K = K) (hc : X.calm = true) : CallR X (.builtin "all") (rAll K) := by subst h; exact cr_all hc
theorem sortedK (h : X.K = K) : CallR X (.builtin "sorted") (rSorted K) := by subst h; exact cr_sorted
theorem isiK (h : X.K = K) : CallR X (.builtin "isinstance") (rIsi K) := by subst h; exact call_isi
theorem reprK {k : Nat} (h : X.K = K) (hgd : X.A.guards = some []) (room : Room k X.A) : CallR X (.builtin "repr") (rReprD K) := by subst h; exact call_reprD hgd room
theorem fldK {e : Expr} {ta : TE} {f : Str} {pos : Pos} (h : X.K = K) (he : PE X e ta) (hb : attributeBase e f X.env (eval e X.env) = eval e X.env) : PE X (.Attribute e f pos) (tFld K ta f) := by subst h; exact pe_fld he hb
theorem iListK {tg l : Expr} {tl : TE} (h : X.K = K) (hl : PE X l tl) : PI X tg l (iList K tl) := by subst h; exact pi_list hl
theorem iTupK {tg l : Expr} {tl : TE} (h : X.K = K) (hl : PE X l tl) : PI X tg l (iTup K tl) := by subst h; exact pi_tup hl
theorem lenSetK {a : Expr} {ta : TE} {p p2 q pos : Pos} (h : X.K = K) (hg : Gl X "len") (hm : X.mg "len" = none) (hg2 : Gl X "set") (hm2 : X.mg "set" = none) (ha : PE X a ta) (hc : X.calm = true := by rfl)
    (na : starEach [a] X.env = (false, eval a X.env) :: starEach [] X.env := by rfl) : PE X (.Call (.Name "len" p) [.Call (.Name "set" p2) [a] [] q] [] pos) (tLenSetG K ta) := by subst h; exact pe_lenSetG hg hm hg2 hm2 ha hc na
end
end MyG

set_option maxHeartbeats 2000000
/-! == and != where an instance with an own __eq__ stands on one side. -/
namespace MyG
open PySem PySem.Spec PyProof.Rows
section
variable {prog : Program} {w : World} {A : Around} {E : Value → Shared → Prop} {h : Heap} {g : Array GenState} {d : Drawn} {t : Nat} {os : OsState} {x C dx : Addr} {Q : Value → Shared → Prop}
/-- what the built-in == says of an instance on its right: it declines -/
def Declines (prog : Program) (w : World) (A : Around) (h : Heap) (id : String) (u : Value) (x : Addr) : Prop :=
  ∀ (E : Value → Shared → Prop) (Q : Value → Shared → Prop) (g : Array GenState) (d : Drawn) (t : Nat) (os : OsState), (∀ tk, Q .notImplemented ⟨h, g, d, tk, os⟩) → wpAny (model prog w) A (call (.builtin id) [u, .ref x]) Q E ⟨h, g, d, t, os⟩
theorem dec_none : Declines prog w A h "NoneType.__eq__" .none x := by
  intro E Q g d t os q
  refine wpAny_call_entry F.slot_NoneType_eq (typeIs_none _) F.entry_NoneType_eq ?_ (F.args_NoneType_eq_2 _ _)
  unfold Builtin.«NoneType.__eq__»
  repeat wp_step
  all_goals exact ⟨_, rfl, q _⟩
theorem dec_int {i : Int} {tk : Tok} (hx : h.get? x = some (PySem.W.instObj C dx)) : Declines prog w A h "int.__eq__" (.int i tk) x := by
  intro E Q g d t os q
  refine wpAny_call_entry F.slot_int_eq (typeIs_int _ _ _) F.entry_int_eq ?_ (F.args_int_eq_2 _ _)
  unfold Builtin.«int.__eq__»
  repeat wp_step
  all_goals exact ⟨_, rfl, q _⟩
theorem dec_bool {b : Bool} (hx : h.get? x = some (PySem.W.instObj C dx)) : Declines prog w A h "int.__eq__" (.bool b) x := by
  intro E Q g d t os q
  refine wpAny_call_entry F.slot_bool_eq (PySem.typeIs_bool _ _) F.entry_int_eq ?_ (F.args_int_eq_2 _ _)
  unfold Builtin.«int.__eq__»
  repeat wp_step
  all_goals exact ⟨_, rfl, q _⟩
theorem dec_str {y : Str} {tk : Tok} (hx : h.get? x = some (PySem.W.instObj C dx)) : Declines prog w A h "str.__eq__" (.str y tk) x := by
  intro E Q g d t os q
  refine wpAny_call_entry F.slot_str_eq (typeIs_str _ _ _) F.entry_str_eq ?_ (F.args_str_eq_2 _ _)
  unfold Builtin.«str.__eq__» Builtin.Str.strCompare
  repeat wp_step
  all_goals exact ⟨_, rfl, q _⟩
theorem inst_not {T : String} (hx : h.get? x = some (PySem.W.instObj C dx)) (hs : PySem.W.Looks (model prog w) h (isSubtype (.ref C) (.type T)) false) {A : Around} {E : Value → Shared → Prop} {Q : Bool → Shared → Prop} (q : Q false ⟨h, g, d, t, os⟩) :
    wpAny (model prog w) A (isInstance (.ref x) (.type T)) Q E ⟨h, g, d, t, os⟩ := by
  unfold isInstance
  exact wpAny_bind (wpAny_typeOf_ref hx (hs.at q))
theorem dec_list {l : Addr} {o : Obj} (hl : h.get? l = some o) (hlc : o.cls = .type "list") (hx : h.get? x = some (PySem.W.instObj C dx)) (hs : PySem.W.Looks (model prog w) h (isSubtype (.ref C) (.type "list")) false) : Declines prog w A h "list.__eq__" (.ref l) x := by
  intro E Q g d t os q
  refine wpAny_call_entry F.slot_list_eq ⟨_, hl, hlc⟩ F.entry_list_eq ?_ (F.args_list_eq_2 _ _)
  unfold Builtin.«list.__eq__»
  repeat (first | (refine wpAny_bind (m := isInstance (.ref x) (.type "list")) (inst_not hx hs ?_)) | wp_step)
  all_goals exact ⟨_, rfl, q _⟩
theorem dec_tuple {l : Addr} {o : Obj} (hl : h.get? l = some o) (hlc : o.cls = .type "tuple") (hx : h.get? x = some (PySem.W.instObj C dx)) (hs : PySem.W.Looks (model prog w) h (isSubtype (.ref C) (.type "tuple")) false) : Declines prog w A h "tuple.__eq__" (.ref l) x := by
  intro E Q g d t os q
  refine wpAny_call_entry F.slot_tuple_eq ⟨_, hl, hlc⟩ F.entry_tuple_eq ?_ (F.args_tuple_eq_2 _ _)
  unfold Builtin.«tuple.__eq__»
  repeat (first | (refine wpAny_bind (m := isInstance (.ref x) (.type "tuple")) (inst_not hx hs ?_)) | wp_step)
  all_goals exact ⟨_, rfl, q _⟩
theorem dec_dict {l : Addr} {o : Obj} (hl : h.get? l = some o) (hlc : o.cls = .type "dict") (hx : h.get? x = some (PySem.W.instObj C dx)) (hs : PySem.W.Looks (model prog w) h (isSubtype (.ref C) (.type "dict")) false) : Declines prog w A h "dict.__eq__" (.ref l) x := by
  intro E Q g d t os q
  refine wpAny_call_entry F.slot_dict_eq ⟨_, hl, hlc⟩ F.entry_dict_eq ?_ (F.args_dict_eq_2 _ _)
  unfold Builtin.«dict.__eq__»
  repeat (first | (refine wpAny_bind (m := isInstance (.ref x) (.type "dict")) (inst_not hx hs ?_)) | wp_step)
  all_goals exact ⟨_, rfl, q _⟩
/-- u == x, u of a built-in type whose == declines, x an instance: the other way about, by its own -/
theorem rc_right {u : Value} {T id : String} {K : PySem.W.Frag} {f : Addr} (hT : ∀ s : Shared, s.heap = h → s.TypeIs u T) (hs1 : Slot T (cmpInfo .Eq).2.1 id) (dec : Declines prog w A h id u x) (KX : K.In h) (hx : h.get? x = some (PySem.W.instObj C dx))
    (hs : PySem.W.Looks (model prog w) h (isSubtype (.ref C) (.type T)) false) (he : PySem.W.findIn K (.ref C) "__eq__" = some (some (.ref f))) (hf : PySem.W.isFn K (.ref f) = true) (hu : A.units < cLine)
    (I : PySem.W.InstAt h x (PySem.W.instObj C dx) C none ∨ ∃ od, PySem.W.InstAt h x (PySem.W.instObj C dx) C (some od))
    (hcall : ∀ tk, wpAny (model prog w) A (call (.ref f) [.ref x, u]) (fun v s' => ∃ b, v = .bool b ∧ Q v s') E ⟨h, g, d, tk, os⟩) :
    wpAny (model prog w) A (richCompare .Eq u (.ref x)) Q E ⟨h, g, d, t, os⟩ := by
  obtain ⟨od, I⟩ : ∃ od, PySem.W.InstAt h x (PySem.W.instObj C dx) C od := by
    rcases I with I | ⟨od, I⟩
    · exact ⟨_, I⟩
    · exact ⟨_, I⟩
  unfold richCompare
  rw [(hT ⟨h, g, d, t, os⟩ rfl).oneThing_none]
  refine wpAny_holding (wpAny_bind (wpAny_cRoomFor hu ?_))
  rw [cmpInfo_Eq]
  dsimp only
  refine wpAny_bind (wpAny_typeOf (hT _ rfl) (wpAny_bind (wpAny_typeOf_ref hx ?_)))
  rw [show (Value.type T != (PySem.W.instObj C dx).cls) = true from rfl, if_pos rfl]
  refine wpAny_bind (hs.at ?_)
  simp only [Bool.false_eq_true, if_false, Bool.not_false, if_true]
  refine wpAny_bind (m := tryCompare u _ (.ref x)) (wpAny_tryCompare_declines (hT _ rfl) hs1 (dec _ _ _ _ _ _ fun tk => ⟨rfl, ?_⟩))
  refine wpAny_bind (m := tryCompare (.ref x) _ u) ?_
  unfold tryCompare
  refine wpAny_bind (PySem.W.ifBound_K (KX) I he hf (wpAny_mono (hcall tk) (fun v s' hv => ?_) fun _ _ e => e))
  obtain ⟨b, rfl, hq⟩ := hv
  exact wpAny_pure (wpAny_pure hq)
/-- x != b by the built-in !=, which asks the own == -/
theorem ne_own {b tb : Value} {K : PySem.W.Frag} {f : Addr} {od : Option Obj} (KX : K.In h) (I : PySem.W.InstAt h x (PySem.W.instObj C dx) C od) (hb : PySem.W.Looks (model prog w) h (typeOf b) tb) (hn : PySem.W.notFirst K C tb = true)
    (he : PySem.W.findIn K (.ref C) "__eq__" = some (some (.ref f))) (hf : PySem.W.isFn K (.ref f) = true) (hne : PySem.W.findIn K (.ref C) "__ne__" = some (some (.builtin "object.__ne__"))) (hob : PySem.W.subIn K (.ref C) (.type "object") = some true) (hu : A.units + 1 < cLine)
    (hcall : ∀ tk, wpAny (model prog w) A.in1 (call (.ref f) [.ref x, b]) (fun v s' => ∃ k, v = .bool k ∧ Q (.bool (!k)) s') E ⟨h, g, d, tk, os⟩) :
    wpAny (model prog w) A (richCompare .NotEq (.ref x) b) Q E ⟨h, g, d, t, os⟩ := by
  have hx := I.at_
  -- the built-in's own body
  have body : ∀ tk, wpAny (model prog w) A.in1 (Builtin.«object.__ne__» ⟨[.ref x, b], []⟩) (fun fin s' => ∃ k, fin = .done (.ret (.bool k)) ∧ Q (.bool k) s') E ⟨h, g, d, tk, os⟩ := by
    intro tk
    unfold Builtin.«object.__ne__»
    repeat (first
      | with_reducible refine wpAny_cRoomFor hu ?_
      | (refine wpAny_bind (m := callSpecialIfBound? (.ref x) (Str.ofString "__eq__") [b]) (PySem.W.ifBound_K KX I he hf (wpAny_mono (hcall _) (fun r s' hr => by
            obtain ⟨k, rfl, hq⟩ := hr
            repeat (first | exact ⟨_, rfl, hq⟩ | (refine wpAny_bind (m := truthy (.bool _)) (wpAny_truthy_bool ?_)) | wp_step)) fun _ _ e => e)))
      | wp_step)
  have chk : ∀ tk {Q' : Unit → Shared → Prop} {E' : Value → Shared → Prop}, Q' () ⟨h, g, d, tk, os⟩ → wpAny (model prog w) A.in1 (checkBuiltinCall "object.__ne__" ⟨[.ref x, b], []⟩) Q' E' ⟨h, g, d, tk, os⟩ := by
    intro tk Q' E' hq
    simp only [checkBuiltinCall, F.cmpKind_ne, F.cmpSplit_ne]
    refine wpAny_bind ?_
    · unfold isInstance
      repeat (first | (with_reducible refine wpAny_loadPart_at hx ?_) | wp_step)
      refine (PySem.W.looks_subIn KX hob).at ?_
      simp only [Bool.not_true, Bool.false_eq_true, if_false]
      have ha := F.cmpArgs_ne (.ref x) b
      cases hsig : Manifest.signature? "object.__ne__" with
      | none => exact wpAny_pure hq
      | some sig =>
        simp only [argsOk, hsig] at ha
        have h2 : Bind.checkArgs "object.__ne__" sig ⟨[.ref x, b], []⟩ = pure () := ha
        show wpAny _ _ (Bind.checkArgs "object.__ne__" sig ⟨[.ref x, b], []⟩) Q' E' _
        rw [h2]
        exact wpAny_pure hq
  have one : ∀ tk, wpAny (model prog w) A (tryCompare (.ref x) "__ne__" b) (fun r s' => ∃ k, r = some (.bool k) ∧ Q (.bool k) s') E ⟨h, g, d, tk, os⟩ := by
    intro tk
    unfold tryCompare
    have inner : ∀ tk, wpAny (model prog w) A (call (.builtin "object.__ne__") [.ref x, b]) (fun v s' => ∃ k, v = .bool k ∧ Q (.bool k) s') E ⟨h, g, d, tk, os⟩ := by
      intro tk
      refine wpAny_call (codeAny_call_builtin F.slot_range_iterator_ne.plain F.cmpEntry_ne (chk tk ?_))
      refine wpAny_mono (body tk) (fun fin s' hf => ?_) fun _ _ e => e
      obtain ⟨k, rfl, hq⟩ := hf
      exact ⟨k, rfl, hq⟩
    refine wpAny_bind (m := callSpecialIfBound? (.ref x) "__ne__" [b]) ?_
    simp only [callSpecialIfBound?, bindSpecialIfBound?]
    refine wpAny_holding (wpAny_bind (wpAny_bind (wpAny_bind (I.type.at ((PySem.W.looks_findIn KX hne).at ?_)))))
    simp only [F.slot_range_iterator_ne.bind]
    refine wpAny_bind (wpAny_askSetting (wpAny_ite ?_))
    have fin : ∀ tk, wpAny (model prog w) A (call (.builtin "object.__ne__") ([.ref x] ++ [b]) >>= fun v => pure (some v)) (fun a s' => wpAny (model prog w) A (match a with
        | some .notImplemented | none => pure none
        | some v => pure (some v)) (fun r s' => ∃ k, r = some (.bool k) ∧ Q (.bool k) s') E s') E ⟨h, g, d, tk, os⟩ := fun tk =>
      wpAny_bind (wpAny_mono (inner tk) (fun v s' hv => by
        obtain ⟨k, rfl, hq⟩ := hv
        exact wpAny_pure (wpAny_pure ⟨k, rfl, hq⟩)) fun _ _ e => e)
    split
    · exact wpAny_bind (wpAny_pure (wpAny_pure (fin _)))
    · exact wpAny_tryCatch (wpAny_bind (wpAny_pure (wpAny_pure (fin _))))
  unfold richCompare
  simp only [oneThing_ref]
  refine wpAny_holding (wpAny_bind (wpAny_cRoomFor (Nat.lt_of_succ_lt hu) ?_))
  rw [cmpInfo_NotEq]
  dsimp only
  refine wpAny_bind (I.type.at (wpAny_bind (hb.at ?_)))
  by_cases q : (Value.ref C != tb) = true
  · rw [if_pos q]
    have e : PySem.W.subIn K tb (.ref C) = some false := by
      rcases Bool.or_eq_true_iff.mp hn with e | e
      · rw [beq_iff_eq.mp e] at q
        simp at q
      · exact beq_iff_eq.mp e
    refine wpAny_bind ((PySem.W.looks_subIn KX e).at ?_)
    simp only [Bool.false_eq_true, if_false]
    refine wpAny_bind (wpAny_mono (one _) (fun r s' hr => ?_) fun _ _ e => e)
    obtain ⟨k, rfl, hq⟩ := hr
    exact wpAny_pure hq
  · rw [if_neg q]
    refine wpAny_bind (wpAny_pure ?_)
    simp only [Bool.false_eq_true, if_false]
    refine wpAny_bind (wpAny_mono (one _) (fun r s' hr => ?_) fun _ _ e => e)
    obtain ⟨k, rfl, hq⟩ := hr
    exact wpAny_pure hq
end
end MyG

/-! ### the same over the layer -/
namespace MyG
open PySem PySem.Spec PyProof.Rows L2 Evl
/-- what is written of a class with an own __eq__ (f) and no own __ne__ -/
structure EqC (K : PySem.W.Frag) (C f : Addr) : Prop where
  he : PySem.W.findIn K (.ref C) "__eq__" = some (some (.ref f))
  hf : PySem.W.isFn K (.ref f) = true
  ne : PySem.W.findIn K (.ref C) "__ne__" = some (some (.builtin "object.__ne__"))
  ob : PySem.W.subIn K (.ref C) (.type "object") = some true
  no : ∀ T ∈ kinds7, PySem.W.subIn K (.ref C) (.type T) = some false
/-- an instance of the class at C, or a thing of a built-in kind -/
def AnyI (C : Addr) (H : Hp) (y : V) : Prop := (∃ t, AnyT H y t) ∨ ∃ b dy gs, y = .ref b ∧ H b = some (.ins C dy gs)
theorem mro7 : (kinds7.all fun t => match fastBuiltinMro t with
  | some l => l.all fun v => match v with
    | .ref _ => false
    | _ => true
  | none => false) = true := by decide +kernel
theorem first7 {K : PySem.W.Frag} {C : Addr} {t : String} (h : t ∈ kinds7) : PySem.W.notFirst K C (.type t) = true := by
  have z := List.all_eq_true.mp mro7 t h
  unfold PySem.W.notFirst
  rw [Bool.or_eq_true]
  right
  show (((fastBuiltinMro t).map (·.contains (.ref C))) == some false) = true
  cases e : fastBuiltinMro t with
  | none => rw [e] at z; cases z
  | some l =>
    rw [e] at z
    have z' : ∀ v ∈ l, (match v with | .ref _ => false | _ => true) = true := List.all_eq_true.mp z
    have n : l.contains (.ref C) = false := by
      cases c : l.contains (.ref C) with
      | false => rfl
      | true =>
        have m := List.contains_iff_mem.mp c
        exact absurd (z' _ m) Bool.false_ne_true
    simp only [Option.map_some, n]
    rfl
section
variable {X : Cx} {pins : List (Addr × Obj)} {σ : L2.St} {H : Hp} {s : Shared} {C f : Addr} {fd : FuncData} {ps : List Str} {n : Nat} {sp : Sp} {CX : CXT} {E : XK}
theorem any_type {y : V} {v : Value} {t : String} (I : Inv X pins σ H s) (r : RelV y v) (a : AnyT H y t) : ∀ s' : Shared, s'.heap = s.heap → s'.TypeIs v t := by
  intro s' hs
  cases a with
  | non => cases (show v = Value.none from r); exact typeIs_none _
  | bl b => cases (show v = Value.bool b from r); exact PySem.typeIs_bool _ _
  | int i => obtain ⟨k, rfl⟩ := (show ∃ k, v = Value.int i k from r); exact typeIs_int _ _ _
  | str x => obtain ⟨k, rfl⟩ := (show ∃ k, v = Value.str x k from r); exact typeIs_str _ _ _
  | @lst a xs h =>
    cases (show v = Value.ref a from r)
    obtain ⟨_, _, k, _, e⟩ := I.hok a _ h
    exact ⟨_, by rw [hs]; exact e, rfl⟩
  | @tup a xs h =>
    cases (show v = Value.ref a from r)
    obtain ⟨_, _, _, o, e, e2, _⟩ := I.hok a _ h
    exact ⟨o, by rw [hs]; exact e, e2⟩
  | @dK a xs h =>
    cases (show v = Value.ref a from r)
    obtain ⟨_, _, _, _, o, _, _, e, e2, _⟩ := I.hok a _ h
    exact ⟨o, by rw [hs]; exact e, e2.1⟩
theorem any_looks {y : V} {v : Value} {M : Model} {t : String} (I : Inv X pins σ H s) (r : RelV y v) (a : AnyT H y t) : PySem.W.Looks M s.heap (typeOf v) (.type t) := by
  intro A Q E s' k q
  have J : s'.TypeIs v t := by
    cases a with
    | non => cases (show v = Value.none from r); exact typeIs_none _
    | bl b => cases (show v = Value.bool b from r); exact PySem.typeIs_bool _ _
    | int i => obtain ⟨k, rfl⟩ := (show ∃ k, v = Value.int i k from r); exact typeIs_int _ _ _
    | str x => obtain ⟨k, rfl⟩ := (show ∃ k, v = Value.str x k from r); exact typeIs_str _ _ _
    | @lst a xs h =>
      cases (show v = Value.ref a from r)
      obtain ⟨_, _, n, _, e⟩ := I.hok a _ h
      exact ⟨_, k _ _ e, rfl⟩
    | @tup a xs h =>
      cases (show v = Value.ref a from r)
      obtain ⟨_, _, _, o, e, e2, _⟩ := I.hok a _ h
      exact ⟨o, k _ _ e, e2⟩
    | @dK a xs h =>
      cases (show v = Value.ref a from r)
      obtain ⟨_, _, _, _, o, _, _, e, e2, _⟩ := I.hok a _ h
      exact ⟨o, k _ _ e, e2.1⟩
  exact wpAny_typeOf J q
def rEqL (C : Addr) (sp : Sp) (E : XK) : R2 := fun x y H Q => ∃ a dx fs, x = .ref a ∧ H a = some (.ins C dx fs) ∧ AnyI C H y ∧ sp [.ref a, y] H (fun v H' => ∃ k, v = .bl k ∧ Q (.bl k) H') E
def rNeL (C : Addr) (sp : Sp) (E : XK) : R2 := fun x y H Q => ∃ a dx fs, x = .ref a ∧ H a = some (.ins C dx fs) ∧ AnyI C H y ∧ sp [.ref a, y] H (fun v H' => ∃ k, v = .bl k ∧ Q (.bl (!k)) H') E
def rEqR (C : Addr) (sp : Sp) (E : XK) : R2 := fun y x H Q => ∃ a dx fs t, x = .ref a ∧ H a = some (.ins C dx fs) ∧ AnyT H y t ∧ sp [.ref a, y] H (fun v H' => ∃ k, v = .bl k ∧ Q (.bl k) H') E
/-- the own __eq__, called wherever there is room -/
theorem run_eq {A : Around} {v : Value} {y : V} {a : Addr} {Q : VK} (F : FnOk X.prog X.w X.K X.mg X.base CX n f fd ps sp) (room : Room n A) (fr : A.frames = X.A.frames) (hb : Binds X.K fd ps []) (hx : Passes CX X E) (I : Inv X pins σ H s) (r : RelV y v) (h : sp [.ref a, y] H Q E) :
    wpAny (model X.prog X.w) A (call (.ref f) [.ref a, v]) (EP X pins σ Q) X.xe s := by
  have e0 : Env0 X.prog X.w X.K X.mg X.base A X.stack s H := { I.env0 with frames := by rw [fr]; exact I.env0.frames }
  have rel : Vals [V.ref a, y] [Value.ref a, v] := .cons rfl (.cons r .nil)
  have hl : [Value.ref a, v].length = ps.length := rel.length.symm.trans (F.len _ _ _ _ h)
  have b := hb s [Value.ref a, v] I.kIn (by rw [List.append_nil]; exact hl)
  rw [List.append_nil] at b
  refine wpAny_call (codeAny_mono (F.run A X.stack s H ⟨[.ref a, v], []⟩ [.ref a, v] [.ref a, y] Q E room e0 b rel h) (fun r s' hq => ?_))
  match r, hq with
  | .error e, hq => exact hx pins σ H s e s' I hq
  | .ok (.ret u), hq => exact I.after hq
theorem op_eqL (c : EqC X.K C f) (F : FnOk X.prog X.w X.K X.mg X.base CX n f fd ps sp) (room : Room n X.A) (hb : Binds X.K fd ps []) (hx : Passes CX X E) : OpR X (compareOp .Eq) (rEqL C sp E) := by
  intro pins s σ H x y v u Q I rx ry h
  obtain ⟨a, dx, fs, rfl, ha, hy, hs⟩ := h
  cases rx
  obtain ⟨mA, J, _⟩ := ins_get I.hok ha
  obtain ⟨od, J, _⟩ := J.look
  obtain ⟨m, hF⟩ := I.fr
  show wpAny (model X.prog X.w) X.A (richCompare .Eq (.ref a) u) (EP X pins σ Q) X.xe s
  have go : wpAny (model X.prog X.w) X.A (call (.ref f) [.ref a, u]) (PySem.W.CmpBack (EP X pins σ Q)) X.xe s := by
    refine wpAny_mono (run_eq F room rfl hb hx I ry hs) (fun w s' hw => ?_) fun _ _ e => e
    obtain ⟨z, H', I', rz, k, rfl, hq⟩ := hw
    cases rz
    exact ⟨.bl k, H', I', rfl, hq⟩
  rcases hy with ⟨t, ht⟩ | ⟨b, dy, gs, rfl, hb'⟩
  · exact PySem.W.cmp_K (op := .Eq) (tb := .type t) room.units0 hF I.ok.mod.kin J (any_looks I ry ht) (first7 ht.mem) c.he c.hf go
  · cases ry
    obtain ⟨mB, J', _⟩ := ins_get I.hok hb'
    obtain ⟨od', J', _⟩ := J'.look
    exact PySem.W.cmp_K (op := .Eq) (tb := .ref C) room.units0 hF I.ok.mod.kin J J'.type (by simp [PySem.W.notFirst]) c.he c.hf go
theorem op_neL (c : EqC X.K C f) (F : FnOk X.prog X.w X.K X.mg X.base CX n f fd ps sp) (room : Room (n + 1) X.A) (hb : Binds X.K fd ps []) (hx : Passes CX X E) : OpR X (compareOp .NotEq) (rNeL C sp E) := by
  intro pins s σ H x y v u Q I rx ry h
  obtain ⟨a, dx, fs, rfl, ha, hy, hs⟩ := h
  cases rx
  obtain ⟨mA, J, _⟩ := ins_get I.hok ha
  obtain ⟨od, J, _⟩ := J.look
  show wpAny (model X.prog X.w) X.A (richCompare .NotEq (.ref a) u) (EP X pins σ Q) X.xe s
  have un := room.units
  obtain ⟨hp, g, d, tk, os⟩ := s
  have go : ∀ tk', wpAny (model X.prog X.w) X.A.in1 (call (.ref f) [.ref a, u]) (fun v s' => ∃ k, v = .bool k ∧ EP X pins σ Q (.bool (!k)) s') X.xe ⟨hp, g, d, tk', os⟩ := by
    intro tk'
    refine wpAny_mono (run_eq F room.in1 rfl hb hx (I.tok tk') ry hs) (fun w s' hw => ?_) fun _ _ e => e
    obtain ⟨z, H', I', rz, k, rfl, hq⟩ := hw
    cases rz
    exact ⟨k, rfl, .bl (!k), H', I', rfl, hq⟩
  rcases hy with ⟨t, ht⟩ | ⟨b, dy, gs, rfl, hb'⟩
  · exact ne_own (tb := .type t) I.kIn J (any_looks I ry ht) (first7 ht.mem) c.he c.hf c.ne c.ob (by omega) go
  · cases ry
    obtain ⟨mB, J', _⟩ := ins_get I.hok hb'
    obtain ⟨od', J', _⟩ := J'.look
    exact ne_own (tb := .ref C) I.kIn J J'.type (by simp [PySem.W.notFirst]) c.he c.hf c.ne c.ob (by omega) go
theorem op_eqRt (c : EqC X.K C f) (F : FnOk X.prog X.w X.K X.mg X.base CX n f fd ps sp) (room : Room n X.A) (hb : Binds X.K fd ps []) (hx : Passes CX X E) : OpR X (compareOp .Eq) (rEqR C sp E) := by
  intro pins s σ H y x u v Q I ry rx h
  obtain ⟨a, dx, fs, t, rfl, ha, ht, hs⟩ := h
  cases rx
  obtain ⟨mA, J, _⟩ := ins_get I.hok ha
  obtain ⟨od, J, _⟩ := J.look
  have un := room.units0
  have hT := any_type I ry ht
  have sub := PySem.W.looks_subIn (M := model X.prog X.w) I.kIn (c.no t ht.mem)
  show wpAny (model X.prog X.w) X.A (richCompare .Eq u (.ref a)) (EP X pins σ Q) X.xe s
  have hx' := J.at_
  have ok := I.hok
  obtain ⟨hp, g, d, tk, os⟩ := s
  have go : ∀ tk', wpAny (model X.prog X.w) X.A (call (.ref f) [.ref a, u]) (fun v s' => ∃ k, v = .bool k ∧ EP X pins σ Q v s') X.xe ⟨hp, g, d, tk', os⟩ := by
    intro tk'
    refine wpAny_mono (run_eq F room rfl hb hx (I.tok tk') ry hs) (fun w s' hw => ?_) fun _ _ e => e
    obtain ⟨z, H', I', rz, k, rfl, hq⟩ := hw
    cases rz
    exact ⟨k, rfl, .bl k, H', I', rfl, hq⟩
  have fin : ∀ {id : String}, Slot t (cmpInfo .Eq).2.1 id → Declines X.prog X.w X.A hp id u a → wpAny (model X.prog X.w) X.A (richCompare .Eq u (.ref a)) (EP X pins σ Q) X.xe ⟨hp, g, d, tk, os⟩ := fun {id} sl dec =>
    rc_right hT sl dec I.kIn hx' sub c.he c.hf un (.inr ⟨_, J⟩) go
  cases ht with
  | non => cases (show u = Value.none from ry); exact fin PySem.F.slot_NoneType_eq dec_none
  | bl b => cases (show u = Value.bool b from ry); exact fin PySem.F.slot_bool_eq (dec_bool hx')
  | int i => obtain ⟨k, rfl⟩ := (show ∃ k, u = Value.int i k from ry); exact fin PySem.F.slot_int_eq (dec_int hx')
  | str z => obtain ⟨k, rfl⟩ := (show ∃ k, u = Value.str z k from ry); exact fin PySem.F.slot_str_eq (dec_str hx')
  | @lst b xs h =>
    cases (show u = Value.ref b from ry)
    obtain ⟨_, _, k, _, e⟩ := ok b _ h
    exact fin PySem.F.slot_list_eq (dec_list e rfl hx' sub)
  | @tup b xs h =>
    cases (show u = Value.ref b from ry)
    obtain ⟨_, _, _, o, e, e2, _⟩ := ok b _ h
    exact fin PySem.F.slot_tuple_eq (dec_tuple e e2 hx' sub)
  | @dK b xs h =>
    cases (show u = Value.ref b from ry)
    obtain ⟨_, _, _, _, o, _, _, e, e2, _⟩ := ok b _ h
    exact fin PySem.F.slot_dict_eq (dec_dict e e2.1 hx' sub)
end
end MyG

set_option maxHeartbeats 2000000
/-! x in [y], both instances with an own __eq__. -/
namespace MyG
open PySem PySem.SeqAt
open AutoSeq1 (wpAny_loadPart')
open MeetsSeq MeetsSeq2 MeetsSeq3 SeqRoads2
section
variable {prog : Program} {w : World} {A : Around} {E : Value → Shared → Prop} {R : Result → Shared → Prop}
theorem end_loop {l : Addr} {items : Array Value} {x : Value} {i n : Nat} {s : Shared} (hl : s.heap.get? l = some { cls := .type "list", data := .seq items n }) (hi : items[i]? = none) (h : ∀ tk, R (.ok (.ret (.bool false))) { s with toks := tk }) :
    wpAny (model prog w) A.in1 (Builtin.«list.__contains__.loop» ⟨[.ref l, x, rawInt (i : Int)], []⟩) (GQ.FinOf prog w A R) (fun e s' => R (.error e) s') s := by
  obtain ⟨hp, g, d, tk, os⟩ := s
  wp_walk using wpAny_loadPart' hl
  have hi' : items[((i : Nat) : Int).toNat]? = none := by simpa using hi
  rw [hi']
  wp_walk
  exact h _
theorem one_loop {l : Addr} {items : Array Value} {u x : Value} {i n : Nat} {s : Shared} (hl : s.heap.get? l = some { cls := .type "list", data := .seq items n }) (hi : items[i]? = some u)
    (he : ∀ tk, wpAny (model prog w) A.in1 (eqBool u x) (fun k s' => (∃ (its : Array Value) (m : Nat), s'.heap.get? l = some { cls := .type "list", data := .seq its m } ∧ its[i + 1]? = none) ∧ ∀ tk', R (.ok (.ret (.bool k))) { s' with toks := tk' }) (fun e s' => R (.error e) s') { s with toks := tk }) :
    wpAny (model prog w) A.in1 (Builtin.«list.__contains__.loop» ⟨[.ref l, x, rawInt (i : Int)], []⟩) (GQ.FinOf prog w A R) (fun e s' => R (.error e) s') s := by
  obtain ⟨hp, g, d, tk, os⟩ := s
  wp_walk using wpAny_loadPart' hl
  have hi' : items[((i : Nat) : Int).toNat]? = some u := by simpa using hi
  rw [hi']
  refine wpAny_bind (wpAny_mono (he _) (fun k s' hk => ?_) fun _ _ e => e)
  obtain ⟨⟨its, m, hv, hn⟩, hR⟩ := hk
  cases k with
  | true =>
    obtain ⟨hp', g', d', tk', os'⟩ := s'
    wp_walk
    exact hR _
  | false =>
    obtain ⟨hp', g', d', tk', os'⟩ := s'
    have hc : ((i : Int) + 1) = ((i + 1 : Nat) : Int) := by push_cast; rfl
    wp_walk
    rw [hc]
    refine ⟨plainId_quiet plain_contains_loop _, codeAny_builtin entry_contains_loop ?_⟩
    rw [Around.under_plainId plain_contains_loop _]
    exact end_loop hv hn hR
theorem contains_one {l : Addr} {items : Array Value} {u x : Value} {n : Nat} {s : Shared} {Q : Value → Shared → Prop} (hl : s.heap.get? l = some { cls := .type "list", data := .seq items n }) (h0 : items[0]? = some u)
    (he : ∀ tk, wpAny (model prog w) A.in1 (eqBool u x) (fun k s' => (∃ (its : Array Value) (m : Nat), s'.heap.get? l = some { cls := .type "list", data := .seq its m } ∧ its[0 + 1]? = none) ∧ ∀ tk', Q (.bool k) { s' with toks := tk' }) E { s with toks := tk }) :
    wpAny (model prog w) A (compareOp .In x (.ref l)) Q E s := by
  show wpAny _ A (do return .bool (← contains (.ref l) x)) Q E s
  refine wpAny_bind (wpAny_contains_slot ⟨_, hl, rfl⟩ F.slot_list_contains (wpAny_mono (GQ.call_here (Q := fun v s' => ∃ k, v = .bool k ∧ ∀ tk', Q (.bool k) { s' with toks := tk' }) F.slot_list_contains ⟨_, hl, rfl⟩ F.entry_list_contains (F.args_list_contains_2 _ _) ?_) (fun v s' hv => ?_) fun _ _ e => e))
  · obtain ⟨hp, g, d, tk, os⟩ := s
    unfold Builtin.«list.__contains__»
    wp_walk
    refine ⟨plainId_quiet plain_contains_loop _, codeAny_builtin entry_contains_loop ?_⟩
    rw [Around.under_plainId plain_contains_loop _]
    exact one_loop (R := wants (fun v s' => ∃ k, v = .bool k ∧ ∀ tk', Q (.bool k) { s' with toks := tk' }) E) hl h0 (fun tk => wpAny_mono (he tk) (fun k s' hk => ⟨hk.1, fun tk' => ⟨k, rfl, hk.2⟩⟩) fun _ _ e => e)
  · obtain ⟨k, rfl, hq⟩ := hv
    exact wpAny_truthy_bool (wpAny_pure (hq _))
end
end MyG
namespace MyG
open PySem PySem.Spec PyProof.Rows L2 Evl
/-- x in [o]: o's own __eq__ is asked -/
def rInI (C : Addr) (sp : Sp) (E : XK) : R2 := fun x y H Q => ∃ a o p dx fs dy gs, x = .ref a ∧ y = .ref p ∧ H p = some (.lst [.ref o]) ∧ H a = some (.ins C dx fs) ∧ H o = some (.ins C dy gs) ∧ o ≠ a ∧
  sp [.ref o, .ref a] H (fun v H' => ∃ k, v = .bl k ∧ H' p = some (.lst [.ref o]) ∧ Q (.bl k) H') E
section
variable {X : Cx} {pins : List (Addr × Obj)} {σ : L2.St} {H : Hp} {s : Shared} {C f : Addr} {fd : FuncData} {ps : List Str} {n : Nat} {sp : Sp} {CX : CXT} {E : XK}
theorem op_inI (c : EqC X.K C f) (F : FnOk X.prog X.w X.K X.mg X.base CX n f fd ps sp) (room : Room (n + 1) X.A) (hb : Binds X.K fd ps []) (hx : Passes CX X E) : OpR X (compareOp .In) (rInI C sp E) := by
  intro pins s σ H x y v u Q I rx ry h
  obtain ⟨a, o, p, dx, fs, dy, gs, rfl, rfl, hp, ha, ho, hne, hs⟩ := h
  cases rx
  cases ry
  obtain ⟨_, us, k, rr, e⟩ := I.hok p _ hp
  obtain ⟨u0, rfl, h0⟩ : ∃ u0, us = [u0] ∧ u0 = Value.ref o := by
    cases rr with
    | cons r t =>
      cases t
      cases r
      exact ⟨_, rfl, rfl⟩
  subst h0
  refine contains_one (items := _) e (u := .ref o) rfl (fun tk => ?_)
  have I' := I.tok tk
  obtain ⟨mB, J, _⟩ := ins_get I'.hok ho
  obtain ⟨od, J, _⟩ := J.look
  obtain ⟨mA, J2, _⟩ := ins_get I'.hok ha
  obtain ⟨od2, J2, _⟩ := J2.look
  obtain ⟨m, hF⟩ := I'.fr
  refine GQ.eqBool_refG hne ?_
  refine PySem.W.cmp_K (op := .Eq) (tb := .ref C) room.in1.units0 hF I'.ok.mod.kin J J2.type (by simp [PySem.W.notFirst]) c.he c.hf ?_
  refine wpAny_mono (run_eq F room.in1 rfl hb hx I' (y := .ref a) (show RelV (V.ref a) (Value.ref a) from rfl) hs) (fun w s' hw => ?_) fun _ _ e => e
  obtain ⟨z, H', I'', rz, k, rfl, hl, hq⟩ := hw
  cases rz
  obtain ⟨_, vs, m', rr', e'⟩ := I''.hok p _ hl
  refine ⟨k, rfl, ⟨_, _, e', ?_⟩, fun tk' => ⟨.bl k, H', I''.tok tk', rfl, hq⟩⟩
  cases rr' with
  | cons r t =>
    cases t
    rfl
end
end MyG

set_option maxHeartbeats 2000000
/-! isinstance of an own class, data alike, lists cut. -/
namespace MyG
open PySem PySem.Spec PyProof.Rows L2 Evl
/-- what isinstance asks of a class -/
structure IsiC (K : PySem.W.Frag) (C : Addr) : Prop where
  ca : PySem.W.findIn K (.ref C) "__class__" = some (some (.builtin "object.__class__"))
  cn : PySem.W.specialIn K (.builtin "object.__class__") "__get__" = some (some (.builtin "getset_descriptor.__get__"))
  ct : PySem.W.takesIn K (.builtin "object.__class__") = some true
  cm : PySem.W.mroIn K C (.type "object") = some true
  ko : ∀ T ∈ kinds7, PySem.W.kitOne K (.type T) (.ref C) = some false
theorem all7 {P : String → Prop} (h1 : P "NoneType") (h2 : P "bool") (h3 : P "int") (h4 : P "str") (h5 : P "list") (h6 : P "tuple") (h7 : P "dict") : ∀ T ∈ kinds7, P T := by
  intro T h
  simp only [kinds7, List.mem_cons, List.not_mem_nil, or_false] at h
  rcases h with rfl | rfl | rfl | rfl | rfl | rfl | rfl <;> assumption
theorem kit_self {K : PySem.W.Frag} {C : Addr} : PySem.W.kitOne K (.ref C) (.ref C) = some true := by
  unfold PySem.W.kitOne
  rw [if_pos (beq_self_eq_true _)]
theorem isi_ins {K : PySem.W.Frag} {H : Hp} {C a dx : Addr} {fs : List (Str × V)} {Q : VK} (q : IsiC K C) (cl : Cls K C) (h : H a = some (.ins C dx fs)) (k : Q (.bl true) H) : rIsi K [.ref a, .ref C] H Q :=
  ⟨.ref a, .ref C, .ref C, .ref C, true, rfl, .own C, .base (.ins h cl q.ca q.cn q.ct q.cm), kit_self, k⟩
theorem isi_no {K : PySem.W.Frag} {H : Hp} {C : Addr} {x : V} {t : String} {Q : VK} (q : IsiC K C) (h : AnyT H x t) (k : Q (.bl false) H) : rIsi K [x, .ref C] H Q :=
  ⟨x, .ref C, .type t, .ref C, false, rfl, .own C, h.ty, q.ko t h.mem, k⟩
theorem revLK {X : Cx} {K : PySem.W.Frag} {e : Expr} {te : TE} {k : Nat} {p1 p2 p3 pos : Pos} (h : X.K = K) (he : PE X e te) : PE X (.Subscript e (.Slice none none (some (.UnaryOp .USub (.Constant (.int 1) k p1) p2)) p3) pos) (tRevL K te) := by subst h; exact pe_revL he
/-! ### data alike -/
theorem eqv_int (a b : Int) : PyData.eqv (.int a) (.int b) = decide (a = b) := by
  unfold PyData.eqv
  first | rfl | simp
theorem eqvAll_ints : ∀ ns ms : List Int, PyData.eqvAll (ns.map PyData.int) (ms.map PyData.int) = decide (ns = ms)
  | [], [] => by simp [PyData.eqvAll]
  | [], m :: ms => by simp [PyData.eqvAll]
  | n :: ns, [] => by simp [PyData.eqvAll]
  | n :: ns, m :: ms => by
    simp only [List.map_cons, PyData.eqvAll, eqvAll_ints ns ms, eqv_int]
    by_cases h : n = m <;> simp [h]
theorem eqv_ints (ns ms : List Int) : PyData.eqv (.list (ns.map PyData.int)) (.list (ms.map PyData.int)) = decide (ns = ms) := by
  rw [← eqvAll_ints]
  simp only [PyData.eqv]
end MyG

set_option maxHeartbeats 2000000
/-! More values that are known: len, list, sorted, repr, lists put together. -/
namespace MyG
open PySem PySem.Spec PyProof.Rows L2 Evl
section
variable {K : PySem.W.Frag} {σ : L2.St} {H : Hp} {ta tb te : TE}
theorem ev_lenQ {p : Addr} {xs : List V} (ha : Ev te σ H (.ref p)) (h : H p = some (.lst xs)) : Ev (tCB (rLenQ K) (tCons te tNil)) σ H (.int (xs.length : Int)) := fun H1 e Q q =>
  ha H1 e _ fun H2 e2 => ⟨p, xs, rfl, .inl (SqL.of ((e.trans e2) _ _ h)), q H2 e2⟩
theorem el_cat {a : Addr} {xs zs : List V} (h1 : Ev ta σ H (.ref a)) (ha : H a = some (.lst xs)) (h2 : ∀ H1, Ex H H1 → EvL tb σ H1 zs) (hl : xs.length + zs.length ≤ 1000) : EvL (tOp rCat ta tb) σ H (xs ++ zs) := fun H1 e Q q =>
  h1 H1 e _ fun H2 e2 => h2 H2 (e.trans e2) H2 (Ex.refl _) _ fun p H3 hp e3 h3 => ⟨a, p, xs, zs, rfl, rfl, e3 _ _ (e2 _ _ (e _ _ ha)), h3, Nat.le_of_lt (small1000 hl), fun t ht => q t _ (fresh_back (e2.trans e3) ht) ((e2.trans e3).trans (Ex.new ht)) upd_same⟩
theorem un_tup {as : TA} {Q : VK} (h : as σ H fun xs H1 => xs.length ≤ sizeLine ∧ ∀ p, H1 p = none → Q (.ref p) (upd H1 p (.tup xs))) : tTup as σ H Q := h
theorem el_listQ {p : Addr} {xs : List V} (ha : Ev te σ H (.ref p)) (h : H p = some (.lst xs)) : EvL (tCB (rListQ K) (tCons te tNil)) σ H xs := fun H1 e Q q =>
  ha H1 e _ fun H2 e2 => ⟨p, xs, rfl, .inl (SqL.of ((e.trans e2) _ _ h)), fun l hl => q l _ (fresh_back e2 hl) (e2.trans (Ex.new hl)) upd_same⟩
theorem el_revL {p : Addr} {xs : List V} (ha : Ev te σ H (.ref p)) (h : H p = some (.lst xs)) : EvL (tRevL K te) σ H xs.reverse := fun H1 e Q q =>
  ha H1 e _ fun H2 e2 => ⟨p, xs, rfl, SqL.of ((e.trans e2) _ _ h), fun l hl => q l _ (fresh_back e2 hl) (e2.trans (Ex.new hl)) upd_same⟩
theorem el_sorted {p : Addr} {ns qs : List Int} (ha : Ev te σ H (.ref p)) (h : H p = some (.lst (ns.map V.int))) (hl : ns.length < 64) (pm : qs.Perm ns) (so : qs.Pairwise (· ≤ ·)) : EvL (tCB (rSorted K) (tCons te tNil)) σ H (qs.map V.int) := fun H1 e Q q =>
  ha H1 e _ fun H2 e2 => ⟨p, ns, rfl, SqL.of ((e.trans e2) _ _ h), hl, fun ns' l pm' so' hl' => by
    obtain rfl : ns' = qs := PySem.W.ksm_same (pm'.trans pm.symm) so' so
    exact q l _ (fresh_back e2 hl') (e2.trans (Ex.new hl')) upd_same⟩
theorem ev_reprL {xs : List V} {ds : List PyData} {k L : Nat} (ha : EvL te σ H xs) (hd : ∀ H1, Ex H H1 → DpAll K H1 xs ds) (s : Small (.list ds) k L) (hk : k ≤ 40 := by decide) (hL : L ≤ 16000000 := by decide) : Ev (tCB (rReprD K) (tCons te tNil)) σ H (.str (PyData.shown (.list ds))) := fun H1 e Q q =>
  ha H1 e _ fun p H2 hp e2 h2 => ⟨.ref p, .list ds, rfl, .lst (SqL.of h2) (hd H2 (e.trans e2)), s.sh, s.nd, Nat.le_trans s.dp hk, Nat.le_trans (Nat.le_trans s.ln hL) (by rw [sizeLine_eq]; decide), q H2 e2⟩
theorem ev_repr {x : V} {d : PyData} {k L : Nat} (ha : Ev te σ H x) (hd : ∀ H1, Ex H H1 → Dp K H1 x d) (s : Small d k L) (hk : k ≤ 40 := by decide) (hL : L ≤ 16000000 := by decide) : Ev (tCB (rReprD K) (tCons te tNil)) σ H (.str (PyData.shown d)) := fun H1 e Q q =>
  ha H1 e _ fun H2 e2 => ⟨x, d, rfl, hd H2 (e.trans e2), s.sh, s.nd, Nat.le_trans s.dp hk, Nat.le_trans (Nat.le_trans s.ln hL) (by rw [sizeLine_eq]; decide), q H2 e2⟩
theorem dp_bls {H : Hp} : ∀ bs : List Bool, DpAll K H (bs.map V.bl) (bs.map PyData.bool)
  | [] => .nil
  | b :: bs => .cons (.bl b) (dp_bls bs)
end
theorem cut_lo (xs : List V) {k : Nat} (h : k ≤ xs.length) : cutV xs none (some (k : Int)) = xs.take k := by
  unfold cutV
  rw [HT.sIx_none, HT.sIx_nat, List.drop_zero]
  congr 1
  omega
theorem cut_hi (xs : List V) {k : Nat} (h : k ≤ xs.length) : cutV xs (some (k : Int)) none = xs.drop k := by
  unfold cutV
  rw [HT.sIx_none, HT.sIx_nat, show min k xs.length = k by omega]
  rw [List.take_of_length_le (by rw [List.length_drop]; omega)]
theorem small_bool (b : Bool) : Small (.bool b) 0 10 := by
  refine ⟨rfl, rfl, Nat.le_refl _, ?_, rfl⟩
  cases b <;> decide +kernel
theorem small_bools {bs : List Bool} {N : Nat} (hl : bs.length ≤ N) : Small (.list (bs.map PyData.bool)) 1 (N * 12 + 3) := by
  have h := small_list (k := 0) (L := 10) (ds := bs.map PyData.bool) (fun d hd => by
    obtain ⟨x, _, rfl⟩ := List.mem_map.mp hd
    exact small_bool x)
  refine h.mono (Nat.le_refl _) ?_
  rw [List.length_map]
  have := Nat.mul_le_mul_right 12 hl
  omega
end MyG

set_option maxHeartbeats 2000000
/-! Letters: values of one of two classes, t[:0:-1], isinstance with a tuple of kinds. -/
namespace MyG
open PySem PySem.Spec PyProof.Rows L2 Evl HT
/-! ### one of two rules, as the value is -/
def tEi (t1 t2 : TE) : TE := fun σ H Q => t1 σ H Q ∨ t2 σ H Q
theorem pe_either {X : Cx} {e : Expr} {t1 t2 : TE} (h1 : PE X e t1) (h2 : PE X e t2) : PE X e (tEi t1 t2) := ⟨fun pins s σ H Q I h => h.elim (h1.run pins s σ H Q I) (h2.run pins s σ H Q I)⟩
section
variable {t1 t2 : TE} {σ : L2.St} {H : Hp}
theorem ei_l {Q : VK} (h : t1 σ H Q) : tEi t1 t2 σ H Q := .inl h
theorem ei_r {Q : VK} (h : t2 σ H Q) : tEi t1 t2 σ H Q := .inr h
theorem ev_l {v : V} (h : Ev t1 σ H v) : Ev (tEi t1 t2) σ H v := fun H1 e Q q => .inl (h H1 e Q q)
theorem ev_r {v : V} (h : Ev t2 σ H v) : Ev (tEi t1 t2) σ H v := fun H1 e Q q => .inr (h H1 e Q q)
theorem eu_l {xs : List V} (h : EvU t1 σ H xs) : EvU (tEi t1 t2) σ H xs := fun H1 e Q q => .inl (h H1 e Q q)
theorem eu_r {xs : List V} (h : EvU t2 σ H xs) : EvU (tEi t1 t2) σ H xs := fun H1 e Q q => .inr (h H1 e Q q)
end
/-! ### t[:0:-1], t a tuple -/
theorem fm_take {α : Type} (r : List α) : ∀ k, k ≤ r.length → (List.range k).filterMap (fun m => r[m]?) = r.take k
  | 0, _ => by simp
  | k + 1, h => by
    rw [List.range_succ, List.filterMap_append, fm_take r k (by omega), List.take_add_one]
    simp [List.getElem?_eq_getElem (show k < r.length by omega)]
theorem back_ix {α : Type} (l : List α) : ((List.range (l.length - 1)).filterMap fun (m : Nat) => l[(((l.length : Nat) : Int) - 1 + (m : Int) * -1).toNat]?) = (l.drop 1).reverse := by
  have e : (List.range (l.length - 1)).filterMap (fun (m : Nat) => l[(((l.length : Nat) : Int) - 1 + (m : Int) * -1).toNat]?) = (List.range (l.length - 1)).filterMap (fun m => l.reverse[m]?) := by
    have z := congrArg (List.filterMap id) (List.map_congr_left (l := List.range (l.length - 1)) (f := fun (m : Nat) => l[(((l.length : Nat) : Int) - 1 + (m : Int) * -1).toNat]?) (g := fun m => l.reverse[m]?) fun m hm => by
      have := List.mem_range.mp hm
      rw [List.getElem?_reverse (by omega)]
      congr 1
      omega)
    rw [List.filterMap_map, List.filterMap_map] at z
    exact z
  rw [e, fm_take _ _ (by rw [List.length_reverse]; omega), List.take_reverse]
  by_cases h : l.length = 0
  · rw [List.length_eq_zero_iff.mp h]; rfl
  · rw [show l.length - (l.length - 1) = 1 by omega]
section
variable {prog : Program} {w : World} {A : Around} {E : Value → Shared → Prop} {s : Shared}
theorem sliceApplied_back {sl : Addr} {vl vu vs : Value} {n : Nat} {Q : Int × Int × Nat → Shared → Prop} (hs : s.heap.IsSliceOf sl vl vu vs) (pl : IsPart vl none) (pu : IsPart vu (some 0)) (ps : IsPart vs (some (-1)))
    (h : Q (((n : Nat) : Int) - 1, -1, n - 1) s) : wpAny (model prog w) A (Builtin.Slice.sliceApplied (.ref sl) (pure (n : Int))) Q E s := by
  obtain ⟨os, hos, hcs, hds⟩ := id hs
  unfold Builtin.Slice.sliceApplied Builtin.Slice.sliceFields
  refine wpAny_bind (wpAny_bind (wpAny_field hos hds (x := vl) rfl (wpAny_bind (wpAny_field hos hds (x := vu) rfl (wpAny_bind (wpAny_field hos hds (x := vs) rfl (wpAny_pure ?_)))))))
  refine wpAny_bind (slicePart_ ps ?_)
  show wpAny _ _ (if ((-1 : Int) == 0) = true then _ else _) _ _ s
  rw [if_neg (by decide)]
  refine wpAny_bind (slicePart_ pl (wpAny_bind (slicePart_ pu (wpAny_bind (wpAny_pure ?_)))))
  have e : Builtin.Slice.sliceAdjust none (some 0) (-1) (n : Int) = ((n : Int) - 1, (if (0 : Int) ≤ (n : Int) - 1 then 0 else (n : Int) - 1)) := by
    unfold Builtin.Slice.sliceAdjust
    simp only [show ((-1 : Int) < 0) = True by simp, if_true, show ¬ ((0 : Int) < 0) by decide, if_false]
    congr 1
  have e2 : Builtin.Slice.slicePlaces ((n : Int) - 1) (if (0 : Int) ≤ (n : Int) - 1 then 0 else (n : Int) - 1) (-1) = n - 1 := by
    unfold Builtin.Slice.slicePlaces
    have h1 : ¬ ((-1 : Int) > 0) := by omega
    simp only [h1, if_false, show (-(-1) : Int) = 1 by rfl, Int.ediv_one]
    split <;> split <;> omega
  show wpAny _ _ (match Builtin.Slice.sliceAdjust none (some 0) (-1) (n : Int) with | (lo, hi) => pure (lo, (-1 : Int), Builtin.Slice.slicePlaces lo hi (-1))) _ _ s
  rw [e]
  show wpAny _ _ (pure ((n : Int) - 1, (-1 : Int), Builtin.Slice.slicePlaces ((n : Int) - 1) (if (0 : Int) ≤ (n : Int) - 1 then 0 else (n : Int) - 1) (-1))) _ _ s
  rw [e2]
  exact wpAny_pure h
theorem getItem_tuple_back {t sl : Addr} {items : Array Value} {vl vu vs : Value} {Q : Value → Shared → Prop} (ht : IsTup s.heap t items) (hs : s.heap.IsSliceOf sl vl vu vs) (pl : IsPart vl none) (pu : IsPart vu (some 0)) (ps : IsPart vs (some (-1)))
    (h : Q (.ref s.heap.objs.size) { s with heap := s.heap.push { cls := .type "tuple", data := .seq ((items.toList.drop 1).reverse).toArray } })
    (hsz : items.size ≤ sizeLine) : wpAny (model prog w) A (getItem (.ref t) (.ref sl)) Q E s := by
  have htake : sizeOk (.seq ((items.toList.drop 1).reverse).toArray) := by
    show ((items.toList.drop 1).reverse).toArray.size ≤ sizeLine
    rw [List.size_toArray, List.length_reverse, List.length_drop, Array.length_toList]
    omega
  obtain ⟨os, hos, hcs, hds⟩ := id hs
  have hTs : s.TypeIs (.ref sl) "slice" := ⟨os, hos, hcs⟩
  unfold getItem
  try with_reducible refine wpAny_holding ?_
  first | refine wpAny_bind (wpAny_pure ?_) | skip
  refine wpAny_bind (wpAny_sequenceKey ht.typeIs (by decide) ?_)
  refine wpAny_bind (wpAny_callSpecial?_slot (name := Str.ofString "__getitem__") ht.typeIs PyProof.Rows.slot_tuple_getitem
    (wpAny_call_entry PyProof.Rows.slot_tuple_getitem ht.typeIs entry_tuple_getitem ?_ (args_tuple_getitem _ _)))
  show wpAny _ _ (Builtin.Tuple.tupleItemsOf (.ref t) >>= _) _ _ s
  refine wpAny_bind (tupleItemsOf_ ht ?_)
  refine wpAny_bind (wpAny_typeOf hTs ?_)
  rw [if_pos (by decide)]
  refine wpAny_bind (sliceApplied_back hs pl pu ps ?_)
  have hno : ¬ (((((items.size : Nat) : Int) - 1) == 0 && (-1 : Int) == 1 && (items.size - 1) == items.size) = true) := by
    intro q
    rw [Bool.and_eq_true, Bool.and_eq_true] at q
    exact absurd q.1.2 (by decide)
  show wpAny _ _ (if ((((items.size : Nat) : Int) - 1) == 0 && (-1 : Int) == 1 && (items.size - 1) == items.size) = true then _ else _) _ _ s
  have hp : ((List.range (items.size - 1)).filterMap fun (m : Nat) => items[(((items.size : Nat) : Int) - 1 + (m : Int) * -1).toNat]?).toArray = ((items.toList.drop 1).reverse).toArray := by
    rw [← back_ix]
    rw [Array.length_toList]
    simp only [Array.getElem?_toList]
  rw [if_neg hno, hp]
  first
    | exact wpAny_bind (m := Builtin.Tuple.tupleExact _) (wpAny_newObj_type (wpAny_pure ⟨_, rfl, wpAny_pure h⟩) htake)
    | exact wpAny_bind (m := Builtin.Tuple.tupleExact _) (wpAny_newObj_type (wpAny_bind (wpAny_pure (wpAny_pure ⟨_, rfl, wpAny_pure h⟩))) htake)
    | exact wpAny_bind (wpAny_bind (m := Builtin.Tuple.tupleExact _) (wpAny_newObj_type (wpAny_pure (wpAny_pure ⟨_, rfl, wpAny_pure h⟩)) htake))
    | exact wpAny_bind (wpAny_bind (m := Builtin.Tuple.tupleExact _) (wpAny_newObj_type (wpAny_pure ⟨_, rfl, wpAny_pure h⟩) htake))
end
def tBackT (K : PySem.W.Frag) (te : TE) : TE := fun σ H Q => te σ H fun x H1 => ∃ a xs, x = .ref a ∧ SqT K H1 a xs ∧ ∀ p, H1 p = none → Q (.ref p) (upd H1 p (.tup (xs.drop 1).reverse))
theorem vals_back {xs : List V} {us : List Value} (r : Vals xs us) : Vals (xs.drop 1).reverse (us.drop 1).reverse := by
  cases r with
  | nil => exact .nil
  | cons _ r => exact L2.Vals.reverse r
theorem backTK {X : Cx} {K : PySem.W.Frag} {e : Expr} {te : TE} {k k0 : Nat} {p0 p1 p2 p3 pos : Pos} (hK : X.K = K) (he : PE X e te) : PE X (.Subscript e (.Slice none (some (.Constant (.int 0) k0 p0)) (some (.UnaryOp .USub (.Constant (.int 1) k p1) p2)) p3) pos) (tBackT K te) := by
  subst hK
  refine ⟨fun pins s σ H Q I h => ?_⟩
  refine Subscript_ (thn (he.run pins s σ H _ I h) fun v s1 ⟨x, H1, I1, r1, q1⟩ => ?_)
  obtain ⟨a, xs, ex, hx, q⟩ := q1
  subst ex
  cases r1
  have hst : PO X (some (.UnaryOp .USub (.Constant (.int 1) k p1) p2)) (tPart (tUn (rU fun i => .int (-i)) (tC (.int 1)))) := po_some (pe_un un_neg pe_int)
  have hup : PO X (some (.Constant (.int 0) k0 p0)) (tPart (tC (.int 0))) := po_some pe_int
  refine wpAny_Slice (thn (po_none.run pins s1 σ H1 (fun o H2 => o = none ∧ H2 = H1) I1 ⟨rfl, rfl⟩) fun vl s2 ⟨l, H2, I2, pl, el, e2⟩ => ?_)
  subst el e2
  refine thn (hup.run pins s2 σ H2 (fun o H3 => o = some 0 ∧ H3 = H2) I2 ⟨0, rfl, rfl, rfl⟩) fun vu s3 ⟨u, H3, I3, pu, eu, e3⟩ => ?_
  subst eu e3
  refine thn (hst.run pins s3 σ H3 (fun o H4 => o = some (-1) ∧ H4 = H3) I3 ⟨1, rfl, -1, rfl, rfl, rfl⟩) fun vs s4 ⟨o, H4, I4, ps, eo, e4⟩ => ?_
  subst eo e4
  have I5 : Inv X pins σ H4 { s4 with heap := s4.heap.push { cls := .type "slice", data := .fields #[vl, vu, vs] } } := I4.kept (t' := s4.toks) fun b ob q => Heap.get?_push_of_some _ q
  obtain ⟨its, r, ht, hz⟩ := I5.tuple hx
  have hlen := r.length
  show wpAny (model X.prog X.w) X.A (subscriptTail e (.Slice none (some (.Constant (.int 0) k0 p0)) (some (.UnaryOp .USub (.Constant (.int 1) k p1) p2)) p3) (.ref a) (.ref s4.heap.objs.size)) (EP X pins σ Q) X.xe { s4 with heap := s4.heap.push { cls := .type "slice", data := .fields #[vl, vu, vs] } }
  refine tail_any (ops := [.ref a, .ref s4.heap.objs.size]) ht.typeIs (PyProof.Rows.slot_tuple_getitem.lookup) ?_ (by with_unfolding_all rfl)
  refine getItem_tuple_back ht (Heap.IsSliceOf.new _ vl vu vs) pl pu ps ?_ (by rw [List.size_toArray]; omega)
  refine ⟨.ref _, _, I5.laid (t' := s4.toks) (o := .tup (xs.drop 1).reverse) (fun b ob q => Heap.get?_push_of_some _ q) (Nat.le_refl _) ?_, rfl, q _ (I5.hok.fresh (Nat.le_refl _))⟩
  exact ⟨by rw [List.length_reverse, List.length_drop]; omega, _, vals_back r, IsTup.new _ _⟩
/-! ### isinstance with a tuple of kinds -/
theorem isiTK {X : Cx} {K : PySem.W.Frag} (h : X.K = K) : CallR X (.builtin "isinstance") (rIsiT K) := by subst h; exact call_isiT
/-- isinstance(x, (list, tuple)) -/
theorem ev_isiLT {K : PySem.W.Frag} {σ : L2.St} {H : Hp} {te : TE} {x : V} {t : String} (h : Ev te σ H x) (ht : AnyT H x t) : Ev (tCB (rIsiT K) (tCons te (tCons (tTup (tCons (tC (.ty "list")) (tCons (tC (.ty "tuple")) tNil))) tNil))) σ H (.bl (t == "list" || t == "tuple")) := fun H1 e Q q =>
  h H1 e _ fun H2 e2 => ⟨by show 2 ≤ sizeLine; decide, fun p hp => ⟨x, p, [.ty "list", .ty "tuple"], .type t, [.type "list", .type "tuple"], _, rfl, upd_same, .cons (.ty _) (.cons (.ty _) .nil), ((ht.ext (e.trans e2)).ext (Ex.new hp)).ty, by
    have k := kit_all ht.mem
    unfold PySem.W.kitAny
    rw [kit_ty k.2.2.1]
    cases t == "list" with
    | true => rfl
    | false =>
      show PySem.W.kitAny _ _ _ = _
      unfold PySem.W.kitAny
      rw [kit_ty k.2.2.2.1]
      cases t == "tuple" with
      | true => rfl
      | false => rfl, q _ (e2.trans (Ex.new hp))⟩⟩
theorem ev_isiO {K : PySem.W.Frag} {σ : L2.St} {H : Hp} {te : TE} {x : V} {t T : String} {b : Bool} (h : Ev te σ H x) (ht : AnyT H x t) (hb : kitB t T = some b) : Ev (tCB (rIsi K) (tCons te (tCons (tC (.ty T)) tNil))) σ H (.bl b) := fun H1 e Q q =>
  h H1 e _ fun H2 e2 => ⟨x, .ty T, .type t, .type T, b, rfl, .ty _, (ht.ext (e.trans e2)).ty, kit_ty hb, q H2 e2⟩
/-! ### data that are tracked -/
mutual
inductive Dq (H : Hp) : V → PyData → Prop
  | non : Dq H .non .none
  | bl (b : Bool) : Dq H (.bl b) (.bool b)
  | int (i : Int) : Dq H (.int i) (.int i)
  | str (x : Str) : Dq H (.str x) (.str x)
  | lst {a : Addr} {xs : List V} {ds : List PyData} : H a = some (.lst xs) → DqAll H xs ds → Dq H (.ref a) (.list ds)
  | tup {a : Addr} {xs : List V} {ds : List PyData} : H a = some (.tup xs) → DqAll H xs ds → Dq H (.ref a) (.tuple ds)
inductive DqAll (H : Hp) : List V → List PyData → Prop
  | nil : DqAll H [] []
  | cons {v : V} {vs : List V} {d : PyData} {ds : List PyData} : Dq H v d → DqAll H vs ds → DqAll H (v :: vs) (d :: ds)
end
mutual
theorem Dq.ext {H H' : Hp} (e : Ex H H') : ∀ {v : V} {d : PyData}, Dq H v d → Dq H' v d
  | _, _, .non => .non
  | _, _, .bl b => .bl b
  | _, _, .int i => .int i
  | _, _, .str x => .str x
  | _, _, .lst h a => .lst (e _ _ h) (DqAll.ext e a)
  | _, _, .tup h a => .tup (e _ _ h) (DqAll.ext e a)
theorem DqAll.ext {H H' : Hp} (e : Ex H H') : ∀ {vs : List V} {ds : List PyData}, DqAll H vs ds → DqAll H' vs ds
  | _, _, .nil => .nil
  | _, _, .cons h a => .cons (Dq.ext e h) (DqAll.ext e a)
end
mutual
theorem Dq.dp {K : PySem.W.Frag} {H : Hp} : ∀ {v : V} {d : PyData}, Dq H v d → Dp K H v d
  | _, _, .non => .non
  | _, _, .bl b => .bl b
  | _, _, .int i => .int i
  | _, _, .str x => .str x
  | _, _, .lst h a => .lst (SqL.of h) (DqAll.dp a)
  | _, _, .tup h a => .tup (SqT.of h) (DqAll.dp a)
theorem DqAll.dp {K : PySem.W.Frag} {H : Hp} : ∀ {vs : List V} {ds : List PyData}, DqAll H vs ds → DpAll K H vs ds
  | _, _, .nil => .nil
  | _, _, .cons h a => .cons (Dq.dp h) (DqAll.dp a)
end
def kindD : PyData → String
  | .none => "NoneType"
  | .bool _ => "bool"
  | .int _ => "int"
  | .str _ => "str"
  | .list _ => "list"
  | .tuple _ => "tuple"
  | _ => "dict"
theorem Dq.any {H : Hp} {v : V} {d : PyData} (h : Dq H v d) : AnyT H v (kindD d) := by
  cases h with
  | non => exact .non
  | bl b => exact .bl b
  | int i => exact .int i
  | str x => exact .str x
  | lst h _ => exact .lst h
  | tup h _ => exact .tup h
theorem DqAll.len {H : Hp} : ∀ {vs : List V} {ds : List PyData}, DqAll H vs ds → vs.length = ds.length
  | _, _, .nil => rfl
  | _, _, .cons _ a => by rw [List.length_cons, List.length_cons, DqAll.len a]
theorem DqAll.at {H : Hp} : ∀ {vs : List V} {ds : List PyData} {i : Nat} {v : V}, DqAll H vs ds → vs[i]? = some v → ∃ d, ds[i]? = some d ∧ Dq H v d
  | _, _, 0, _, .cons h _, e => by
    rw [List.getElem?_cons_zero] at e
    obtain rfl := Option.some.inj e
    exact ⟨_, rfl, h⟩
  | _, _, i + 1, _, .cons _ a, e => by
    rw [List.getElem?_cons_succ] at e
    obtain ⟨d, h1, h2⟩ := DqAll.at a e
    exact ⟨d, h1, h2⟩
/-- what an own walk of at most k layers can look through -/
def alk : Nat → PyData → Bool
  | 0, _ => false
  | k + 1, .list ds => decide (ds.length ≤ 1000) && ds.all (alk k)
  | k + 1, .tuple ds => decide (ds.length ≤ 1000) && ds.all (alk k)
  | _ + 1, .none => true
  | _ + 1, .bool _ => true
  | _ + 1, .int _ => true
  | _ + 1, .str _ => true
  | _, _ => false
/-- data alike -/
def sp_alike (k : Nat) : Sp := fun vs H Q _ => ∃ x y d, vs = [x, y] ∧ Dq H x d ∧ Dq H y d ∧ alk k d = true ∧ ∀ H', Ex H H' → Q (.bl true) H'
/-! ### own ==, the other thing of any class -/
def AnyJ (K : PySem.W.Frag) (C : Addr) (H : Hp) (y : V) : Prop := (∃ t, AnyT H y t) ∨ ∃ b D dy gs, y = .ref b ∧ H b = some (.ins D dy gs) ∧ PySem.W.notFirst K C (.ref D) = true
theorem notFirst_self {K : PySem.W.Frag} {C : Addr} : PySem.W.notFirst K C (.ref C) = true := by simp [PySem.W.notFirst]
theorem notFirst_other {K : PySem.W.Frag} {C D : Addr} (h : PySem.W.subIn K (.ref D) (.ref C) = some false) : PySem.W.notFirst K C (.ref D) = true := by simp [PySem.W.notFirst, h]
def rEqJ (K : PySem.W.Frag) (C : Addr) (sp : Sp) (E : XK) : R2 := fun x y H Q => ∃ a dx fs, x = .ref a ∧ H a = some (.ins C dx fs) ∧ AnyJ K C H y ∧ sp [.ref a, y] H (fun v H' => ∃ k, v = .bl k ∧ Q (.bl k) H') E
def rNeJ (K : PySem.W.Frag) (C : Addr) (sp : Sp) (E : XK) : R2 := fun x y H Q => ∃ a dx fs, x = .ref a ∧ H a = some (.ins C dx fs) ∧ AnyJ K C H y ∧ sp [.ref a, y] H (fun v H' => ∃ k, v = .bl k ∧ Q (.bl (!k)) H') E
section
variable {X : Cx} {K : PySem.W.Frag} {pins : List (Addr × Obj)} {σ : L2.St} {H : Hp} {s : Shared} {C f : Addr} {fd : FuncData} {ps : List Str} {n : Nat} {sp : Sp} {CX : CXT} {E : XK}
theorem op_eqJ (hK : X.K = K) (c : EqC K C f) (F : FnOk X.prog X.w X.K X.mg X.base CX n f fd ps sp) (room : Room n X.A) (hb : Binds X.K fd ps []) (hx : Passes CX X E) : OpR X (compareOp .Eq) (rEqJ K C sp E) := by
  subst hK
  intro pins s σ H x y v u Q I rx ry h
  obtain ⟨a, dx, fs, rfl, ha, hy, hs⟩ := h
  cases rx
  obtain ⟨mA, J, _⟩ := ins_get I.hok ha
  obtain ⟨od, J, _⟩ := J.look
  obtain ⟨m, hF⟩ := I.fr
  show wpAny (model X.prog X.w) X.A (richCompare .Eq (.ref a) u) (EP X pins σ Q) X.xe s
  have go : wpAny (model X.prog X.w) X.A (call (.ref f) [.ref a, u]) (PySem.W.CmpBack (EP X pins σ Q)) X.xe s := by
    refine wpAny_mono (run_eq F room rfl hb hx I ry hs) (fun w s' hw => ?_) fun _ _ e => e
    obtain ⟨z, H', I', rz, k, rfl, hq⟩ := hw
    cases rz
    exact ⟨.bl k, H', I', rfl, hq⟩
  rcases hy with ⟨t, ht⟩ | ⟨b, D, dy, gs, rfl, hb', hn⟩
  · exact PySem.W.cmp_K (op := .Eq) (tb := .type t) room.units0 hF I.ok.mod.kin J (any_looks I ry ht) (first7 ht.mem) c.he c.hf go
  · cases ry
    obtain ⟨mB, J', _⟩ := ins_get I.hok hb'
    obtain ⟨od', J', _⟩ := J'.look
    exact PySem.W.cmp_K (op := .Eq) (tb := .ref D) room.units0 hF I.ok.mod.kin J J'.type hn c.he c.hf go
theorem op_neJ (hK : X.K = K) (c : EqC K C f) (F : FnOk X.prog X.w X.K X.mg X.base CX n f fd ps sp) (room : Room (n + 1) X.A) (hb : Binds X.K fd ps []) (hx : Passes CX X E) : OpR X (compareOp .NotEq) (rNeJ K C sp E) := by
  subst hK
  intro pins s σ H x y v u Q I rx ry h
  obtain ⟨a, dx, fs, rfl, ha, hy, hs⟩ := h
  cases rx
  obtain ⟨mA, J, _⟩ := ins_get I.hok ha
  obtain ⟨od, J, _⟩ := J.look
  show wpAny (model X.prog X.w) X.A (richCompare .NotEq (.ref a) u) (EP X pins σ Q) X.xe s
  have un := room.units
  obtain ⟨hp, g, d, tk, os⟩ := s
  have go : ∀ tk', wpAny (model X.prog X.w) X.A.in1 (call (.ref f) [.ref a, u]) (fun v s' => ∃ k, v = .bool k ∧ EP X pins σ Q (.bool (!k)) s') X.xe ⟨hp, g, d, tk', os⟩ := by
    intro tk'
    refine wpAny_mono (run_eq F room.in1 rfl hb hx (I.tok tk') ry hs) (fun w s' hw => ?_) fun _ _ e => e
    obtain ⟨z, H', I', rz, k, rfl, hq⟩ := hw
    cases rz
    exact ⟨k, rfl, .bl (!k), H', I', rfl, hq⟩
  rcases hy with ⟨t, ht⟩ | ⟨b, D, dy, gs, rfl, hb', hn⟩
  · exact ne_own (tb := .type t) I.kIn J (any_looks I ry ht) (first7 ht.mem) c.he c.hf c.ne c.ob (by omega) go
  · cases ry
    obtain ⟨mB, J', _⟩ := ins_get I.hok hb'
    obtain ⟨od', J', _⟩ := J'.look
    exact ne_own (tb := .ref D) I.kIn J J'.type hn c.he c.hf c.ne c.ob (by omega) go
end
/-- isinstance of an instance of the class at D with the class at C -/
theorem isi_insD {K : PySem.W.Frag} {H : Hp} {C D a dx : Addr} {fs : List (Str × V)} {b : Bool} {Q : VK} (q : IsiC K D) (cl : Cls K D) (kb : PySem.W.kitOne K (.ref D) (.ref C) = some b) (h : H a = some (.ins D dx fs)) (k : Q (.bl b) H) : rIsi K [.ref a, .ref C] H Q :=
  ⟨.ref a, .ref C, .ref D, .ref C, b, rfl, .own C, .base (.ins h cl q.ca q.cn q.ct q.cm), kb, k⟩
/-! ### x or y, by truth -/
theorem orTK {X : Cx} {K : PySem.W.Frag} {a b : Expr} {ta tb : TE} {rest : List Expr} {pos : Pos} (h : X.K = K) (ha : PE X a ta) (hb : PE X (.BoolOp .Or (b :: rest) pos) tb) : PE X (.BoolOp .Or (a :: b :: rest) pos) (tOrT K ta tb) := by subst h; exact pe_orT ha hb
section
variable {K : PySem.W.Frag} {σ : L2.St} {H : Hp} {ta tb te : TE}
theorem el_or1 {xs : List V} (h : EvL ta σ H xs) (hne : xs ≠ []) : EvL (tOrT K ta tb) σ H xs := fun H1 e Q q =>
  h H1 e _ fun p H2 hp e2 h2 => ⟨true, .inl ⟨xs, SqL.of h2, by cases xs with | nil => exact absurd rfl hne | cons _ _ => rfl⟩, iteT (q p H2 hp e2 h2)⟩
theorem el_or2 {ys : List V} (h : EvL ta σ H []) (h2 : EvL tb σ H ys) : EvL (tOrT K ta tb) σ H ys := fun H1 e Q q =>
  h H1 e _ fun p H2 hp e2 hx => ⟨false, .inl ⟨[], SqL.of hx, rfl⟩, iteF (h2 H2 (e.trans e2) Q fun p' H3 hp' e3 h3 => q p' H3 (fresh_back e2 hp') (e2.trans e3) h3)⟩
theorem el_or {xs ys : List V} (h : EvL ta σ H xs) (h2 : xs = [] → EvL tb σ H ys) : EvL (tOrT K ta tb) σ H (if xs.isEmpty then ys else xs) := by
  cases xs with
  | nil => exact el_or2 h (h2 rfl)
  | cons x r => exact el_or1 h (by simp)
theorem given_allF (ys : List V) : given ys.length (fun _ => true) (fun i => ys.getD i .non) = ys := by
  unfold given
  rw [List.filter_eq_self.mpr (fun _ _ => rfl)]
  refine List.ext_getElem (by simp) (fun i h1 h2 => ?_)
  rw [List.getElem_map, List.getElem_range, List.getD_eq_getElem?_getD, List.getElem?_eq_getElem h2]
  rfl
/-- [e for x in a new list], each thing as it is -/
theorem el_mapF {xs ys : List V} {tl : TE} {j : Nat} {vs : List Nat} (h : EvL tl σ H xs) (hz : xs.length ≤ 40000) (hl : ys.length = xs.length)
    (hw : ∀ x, wipe ((wipe σ vs).set j (some x)) vs = wipe σ vs) (he : ∀ (i : Nat) (x y : V) H1, Ex H H1 → xs[i]? = some x → ys[i]? = some y → Ev te ((wipe σ vs).set j (some x)) H1 y) : EvL (tLc (iList K tl) (gName j) tYes te vs) σ H ys := by
  have k := el_lcNL (K := K) (t := tYes) (te := te) (fun _ => true) (fun i => ys.getD i .non) h hz hw (fun i x H1 e hi => fun H1 _ _ q => q H1 (Ex.refl H1)) (fun i x H1 e hi _ => by
    have h1 := (List.getElem?_eq_some_iff.mp hi).1
    have h2 : i < ys.length := by omega
    rw [show ys.getD i .non = ys[i] by rw [List.getD_eq_getElem?_getD, List.getElem?_eq_getElem h2]; rfl]
    exact he i x _ H1 e hi (List.getElem?_eq_getElem h2))
  rw [← hl, given_allF] at k
  exact k
theorem cut_all (xs : List V) {k : Nat} (h : xs.length ≤ k) : cutV xs none (some (k : Int)) = xs := by
  unfold cutV
  rw [sIx_none, sIx_nat, List.drop_zero, Nat.min_eq_right h, Nat.sub_zero, List.take_length]
end
section
variable {K : PySem.W.Frag} {σ : L2.St} {H : Hp} {ta tb te : TE} {x : V} {t : String}
theorem ev_isi_int (h : Ev te σ H x) (ht : AnyT H x t) : Ev (tCB (rIsi K) (tCons te (tCons (tC (.ty "int")) tNil))) σ H (.bl (t == "int" || t == "bool")) := ev_isiO h ht (kit_all ht.mem).1
theorem ev_isi_bool (h : Ev te σ H x) (ht : AnyT H x t) : Ev (tCB (rIsi K) (tCons te (tCons (tC (.ty "bool")) tNil))) σ H (.bl (t == "bool")) := ev_isiO h ht (kit_all ht.mem).2.1
theorem ev_isi_list (h : Ev te σ H x) (ht : AnyT H x t) : Ev (tCB (rIsi K) (tCons te (tCons (tC (.ty "list")) tNil))) σ H (.bl (t == "list")) := ev_isiO h ht (kit_all ht.mem).2.2.1
theorem ev_isi_tuple (h : Ev te σ H x) (ht : AnyT H x t) : Ev (tCB (rIsi K) (tCons te (tCons (tC (.ty "tuple")) tNil))) σ H (.bl (t == "tuple")) := ev_isiO h ht (kit_all ht.mem).2.2.2.1
theorem ev_isi_str (h : Ev te σ H x) (ht : AnyT H x t) : Ev (tCB (rIsi K) (tCons te (tCons (tC (.ty "str")) tNil))) σ H (.bl (t == "str")) := ev_isiO h ht (kit_all ht.mem).2.2.2.2.1
theorem ev_isi_dict (h : Ev te σ H x) (ht : AnyT H x t) : Ev (tCB (rIsi K) (tCons te (tCons (tC (.ty "dict")) tNil))) σ H (.bl (t == "dict")) := ev_isiO h ht (kit_all ht.mem).2.2.2.2.2
theorem ev_isN (h : Ev te σ H x) : Ev (tOp (fun x y H Q => y = V.non ∧ Q (V.bl (decide (x = V.non))) H) te (tC V.non)) σ H (.bl (decide (x = .non))) := ev_op h ev_c fun H1 e Q q => ⟨rfl, q H1 (Ex.refl H1)⟩
theorem ev_allN {bs : List Bool} (h : EvL te σ H (bs.map V.bl)) : Ev (tCB (rAll K) (tCons te tNil)) σ H (.bl (bs.all id)) := fun H1 e Q q => h H1 e _ fun p H2 hp e2 h2 => ⟨p, bs, rfl, SqL.of h2, q H2 e2⟩
theorem ev_lenT {p : Addr} {xs : List V} (ha : Ev te σ H (.ref p)) (h : H p = some (.tup xs)) : Ev (tCB (rLenQ K) (tCons te tNil)) σ H (.int (xs.length : Int)) := fun H1 e Q q =>
  ha H1 e _ fun H2 e2 => ⟨p, xs, rfl, .inr (SqT.of ((e.trans e2) _ _ h)), q H2 e2⟩
/-- [e for k in range(n)], known for each k -/
theorem el_mapR {ta : TA} {j : Nat} {vs : List Nat} {ys : List V} (h : EvA ta σ H [.int (ys.length : Int)]) (hn : ys.length ≤ 40000) (hw : ∀ x, wipe ((wipe σ vs).set j (some x)) vs = wipe σ vs)
    (he : ∀ (i : Nat) (y : V) H1, Ex H H1 → ys[i]? = some y → Ev te ((wipe σ vs).set j (some (.int (i : Int)))) H1 y) : EvL (tLc (iRng1 ta) (gName j) tYes te vs) σ H ys := by
  have k := el_lcR1 (t := tYes) (te := te) (fun _ => true) (fun i => ys.getD i .non) h (by omega) hw (fun i H1 e hi => fun H1 _ _ q => q H1 (Ex.refl H1)) (fun i H1 e hi _ => by
    have h2 : i < ys.length := by omega
    rw [show ys.getD i .non = ys[i] by rw [List.getD_eq_getElem?_getD, List.getElem?_eq_getElem h2]; rfl]
    exact he i _ H1 e (List.getElem?_eq_getElem h2))
  rw [Int.toNat_natCast, given_allF] at k
  exact k
/-- xs[i], xs a list or a tuple -/
theorem ev_ixq {tk : TE} {p : Addr} {xs : List V} {i : Nat} {v : V} (h : H p = some (.lst xs) ∨ H p = some (.tup xs)) (ha : Ev te σ H (.ref p)) (hk : Ev tk σ H (.int (i : Int))) (hi : xs[i]? = some v) : Ev (tEi (tOp (rIxL K) te tk) (tOp (rIxT K) te tk)) σ H v := by
  rcases h with h | h
  · exact ev_l (ev_op ha hk (rv_ixL (SqL.of h) (atI_nat hi)))
  · exact ev_r (ev_op ha hk (rv_ixT (SqT.of h) (atI_nat hi)))
theorem ev_lenA {p : Addr} {xs : List V} (ha : Ev te σ H (.ref p)) (h : H p = some (.lst xs) ∨ H p = some (.tup xs)) : Ev (tCB (rLenQ K) (tCons te tNil)) σ H (.int (xs.length : Int)) := h.elim (ev_lenQ ha) (ev_lenT ha)
end
section
variable {K : PySem.W.Frag} {σ : L2.St} {H : Hp} {ta tb te : TE}
theorem ev_fld {f : Str} {p C dx : Addr} {fs : List (Str × V)} {v : V} (ha : Ev te σ H (.ref p)) (h : H p = some (.ins C dx fs)) (cl : Cls K C) (nf : PySem.W.findIn K (.ref C) f = some none) (lk : fs.lookup f = some v) : Ev (tFld K te f) σ H v := fun H1 e Q q =>
  ha H1 e _ fun H2 e2 => ⟨p, C, dx, fs, v, rfl, (e.trans e2) _ _ h, cl, nf, lk, q H2 e2⟩
theorem EvU.mono {H' : Hp} {xs : List V} (e : Ex H H') (h : EvU te σ H xs) : EvU te σ H' xs := fun H1 a Q q => h H1 (e.trans a) Q q
theorem eu_sl {tl th : TO} {a : Addr} {xs : List V} {lo hi : Option Int} (h : Ev te σ H (.ref a)) (h1 : EvO tl σ H lo) (h2 : EvO th σ H hi) (hs : H a = some (.tup xs)) (hw : ¬ (HT.sIx xs.length 0 lo = 0 ∧ HT.sIx xs.length xs.length hi = xs.length)) : EvU (tSl (rSlT K) te tl th) σ H (cutV xs lo hi) := fun H1 e Q q =>
  h H1 e _ fun H2 e2 => h1 H2 (e.trans e2) _ fun H3 e3 => h2 H3 ((e.trans e2).trans e3) _ fun H4 e4 => ⟨a, xs, rfl, SqT.of ((((e.trans e2).trans e3).trans e4) _ _ hs), hw, fun p hp => q p _ (fresh_back ((e2.trans e3).trans e4) hp) (((e2.trans e3).trans e4).trans (Ex.new hp)) upd_same⟩
theorem eu_back {a : Addr} {xs : List V} (h : Ev te σ H (.ref a)) (hs : H a = some (.tup xs)) : EvU (tBackT K te) σ H (xs.drop 1).reverse := fun H1 e Q q =>
  h H1 e _ fun H2 e2 => ⟨a, xs, rfl, SqT.of ((e.trans e2) _ _ hs), fun p hp => q p _ (fresh_back e2 hp) (e2.trans (Ex.new hp)) upd_same⟩
theorem eu_cat {xs ys : List V} (h1 : EvU ta σ H xs) (h2 : EvU tb σ H ys) (hx : xs ≠ []) (hl : xs.length + ys.length ≤ 1000) : EvU (tOp (rCatT K) ta tb) σ H (xs ++ ys) := fun H1 e Q q =>
  h1 H1 e _ fun p H2 hp e2 hxs => h2 H2 (e.trans e2) _ fun r H3 hr e3 hys => ⟨p, r, xs, ys, rfl, rfl, SqT.of (e3 _ _ hxs), SqT.of hys, hx, Nat.le_trans hl (by decide), (fun z => by
    subst z
    rw [List.append_nil] at q
    exact q p H3 hp (e2.trans e3) (e3 _ _ hxs)), fun _ t ht => q t _ (fresh_back (e2.trans e3) ht) ((e2.trans e3).trans (Ex.new ht)) upd_same⟩
theorem eu_if {t : TT} {b : Bool} {xs : List V} (h : EvT t σ H b) (h1 : b = true → EvU ta σ H xs) (h2 : b = false → EvU tb σ H xs) : EvU (tIf t ta tb) σ H xs := fun H1 e Q q => h H1 e _ fun H2 e2 => by
  cases b with
  | true => exact iteT (h1 rfl H2 (e.trans e2) Q fun p H3 hp e3 hx => q p H3 (fresh_back e2 hp) (e2.trans e3) hx)
  | false => exact iteF (h2 rfl H2 (e.trans e2) Q fun p H3 hp e3 hx => q p H3 (fresh_back e2 hp) (e2.trans e3) hx)
theorem eu_is {xs ys : List V} (h : EvU te σ H xs) (e : xs = ys) : EvU te σ H ys := by rw [← e]; exact h
end
/-! ### a value that is such data -/
def EvQ (te : TE) (σ : L2.St) (H : Hp) (d : PyData) : Prop := ∀ H1, Ex H H1 → ∀ Q : VK, (∀ v H2, Ex H1 H2 → Dq H2 v d → Q v H2) → te σ H1 Q
def EvQA (ta : TA) (σ : L2.St) (H : Hp) (ds : List PyData) : Prop := ∀ H1, Ex H H1 → ∀ Q : List V → Hp → Prop, (∀ vs H2, Ex H1 H2 → DqAll H2 vs ds → Q vs H2) → ta σ H1 Q
section
variable {K : PySem.W.Frag} {σ : L2.St} {H : Hp} {ta tb te : TE} {d : PyData}
theorem ed_ev {v : V} (h : Ev te σ H v) (hd : Dq H v d) : EvQ te σ H d := fun H1 e Q q => h H1 e Q fun H2 e2 => q v H2 e2 (hd.ext (e.trans e2))
theorem ed_tup {xs : List V} {ds : List PyData} (h : EvU te σ H xs) (hd : DqAll H xs ds) : EvQ te σ H (.tuple ds) := fun H1 e Q q => h H1 e Q fun p H2 hp e2 h2 => q _ H2 e2 (.tup h2 (hd.ext (e.trans e2)))
theorem ed_list {xs : List V} {ds : List PyData} (h : EvL te σ H xs) (hd : DqAll H xs ds) : EvQ te σ H (.list ds) := fun H1 e Q q => h H1 e Q fun p H2 hp e2 h2 => q _ H2 e2 (.lst h2 (hd.ext (e.trans e2)))
theorem EvQ.mono {H' : Hp} (e : Ex H H') (h : EvQ te σ H d) : EvQ te σ H' d := fun H1 a Q q => h H1 (e.trans a) Q q
theorem eda_nil : EvQA tNil σ H [] := fun H1 _ _ q => q _ H1 (Ex.refl H1) .nil
theorem eda_cons {tr : TA} {ds : List PyData} (h : EvQ te σ H d) (hr : EvQA tr σ H ds) : EvQA (tCons te tr) σ H (d :: ds) := fun H1 e Q q =>
  h H1 e _ fun v H2 e2 hv => hr H2 (e.trans e2) _ fun vs H3 e3 hs => q _ H3 (e2.trans e3) (.cons (hv.ext e3) hs)
theorem ed_lst {tr : TA} {ds : List PyData} (h : EvQA tr σ H ds) (hl : ds.length ≤ 1000) : EvQ (tLst tr) σ H (.list ds) := fun H1 e Q q =>
  h H1 e _ fun vs H2 e2 hs => ⟨by rw [hs.len]; exact Nat.le_trans hl (by decide), fun p hp => q _ _ (e2.trans (Ex.new hp)) (.lst upd_same (hs.ext (Ex.new hp)))⟩
theorem ed_tp {tr : TA} {ds : List PyData} (h : EvQA tr σ H ds) (hl : ds.length ≤ 1000) : EvQ (tTup tr) σ H (.tuple ds) := fun H1 e Q q =>
  h H1 e _ fun vs H2 e2 hs => ⟨by rw [hs.len]; exact Nat.le_trans hl (by decide), fun p hp => q _ _ (e2.trans (Ex.new hp)) (.tup upd_same (hs.ext (Ex.new hp)))⟩
theorem ed_is {d' : PyData} (h : EvQ te σ H d) (e : d = d') : EvQ te σ H d' := by rw [← e]; exact h
/-- [x] * k, x a truth -/
theorem ed_repB {b : Bool} {k : Nat} (h : Ev te σ H (.bl b)) (hk : k ≤ 1000) : EvQ (tOp rRep (tLst (tCons te tNil)) (tC (.int (k : Int)))) σ H (.list (List.replicate k (.bool b))) := fun H1 e Q q =>
  h H1 e _ fun H2 e2 => ⟨by show 1 ≤ sizeLine; decide, fun p hp => ⟨p, k, [.bl b], rfl, rfl, upd_same, by omega, by omega, by
    rw [Int.toNat_natCast]
    show 1 * k ≤ sizeLine
    exact Nat.le_trans (by omega : 1 * k ≤ 1000) (by decide), fun r hr => by
    rw [Int.toNat_natCast]
    refine q _ _ ((e2.trans (Ex.new hp)).trans (Ex.new hr)) (.lst upd_same ?_)
    induction k with
    | zero => exact .nil
    | succ n ih => 
      have z : ∀ m, DqAll (upd (upd H2 p (.lst [.bl b])) r (.lst (List.replicate (n + 1) [V.bl b]).flatten)) (List.replicate m [V.bl b]).flatten (List.replicate m (.bool b)) := by
        intro m
        induction m with
        | zero => exact .nil
        | succ m ih => exact .cons (.bl b) ih
      exact z (n + 1)⟩⟩
theorem ev_alike {k : Nat} (ha : EvQ ta σ H d) (hb : EvQ tb σ H d) (hk : alk k d = true) : Ev (tCall (sp_alike k) [] E0 (tCons ta (tCons tb tNil))) σ H (.bl true) := fun H1 e Q q =>
  ha H1 e _ fun v H2 e2 hv => hb H2 (e.trans e2) _ fun u H3 e3 hu => ⟨v, u, d, rfl, hv.ext e3, hu, hk, fun H4 e4 => q H4 ((e2.trans e3).trans e4)⟩
end
end MyG

set_option maxHeartbeats 2000000
namespace K15
open PySem PySem.Spec PyProof.Rows L2 Evl MyG
/-! ### the text by places -/
def top (i : Nat) : Stmt := PySem.Challenge.pw_ringless_k15_letters_told.main.body.getD i (.Pass ⟨0, 0, 0, 0⟩)
abbrev s_l_state : Stmt := (top 5)
abbrev n_l_state : List Str := ["_law_script", "_law_cell"]
theorem sc_l_state : FnScope ["_law_script", "_law_cell"] ["_law_script"] (defScope s_l_state) := ⟨rfl, rfl, rfl, by decide +kernel, rfl, by decide +kernel, by decide +kernel⟩
abbrev s_l_draw : Stmt := (top 6)
abbrev n_l_draw : List Str := ["_law_state_here", "_law_many", "_law_cells", "_law_at", "_law_cell"]
theorem sc_l_draw : FnScope ["_law_state_here", "_law_many", "_law_cells", "_law_at", "_law_cell"] ["_law_state_here", "_law_many"] (defScope s_l_draw) := ⟨rfl, rfl, rfl, by decide +kernel, rfl, by decide +kernel, by decide +kernel⟩
abbrev s_l_alike : Stmt := (top 7)
abbrev n_l_alike : List Str := ["_law_one", "_law_other", "_law_k"]
theorem sc_l_alike : FnScope ["_law_one", "_law_other", "_law_k"] ["_law_one", "_law_other"] (defScope s_l_alike) := ⟨rfl, rfl, rfl, by decide +kernel, rfl, by decide +kernel, by decide +kernel⟩
abbrev s_l_letter : Stmt := (top 8)
abbrev n_l_letter : List Str := ["_law_state_here", "_law_some", "_law_told", "_law_k"]
theorem sc_l_letter : FnScope ["_law_state_here", "_law_some", "_law_told", "_law_k"] ["_law_state_here"] (defScope s_l_letter) := ⟨rfl, rfl, rfl, by decide +kernel, rfl, by decide +kernel, by decide +kernel⟩
abbrev s_l_made : Stmt := (top 9)
abbrev n_l_made : List Str := ["_law_told", "_law_named"]
theorem sc_l_made : FnScope ["_law_told", "_law_named"] ["_law_told", "_law_named"] (defScope s_l_made) := ⟨rfl, rfl, rfl, by decide +kernel, rfl, by decide +kernel, by decide +kernel⟩
abbrev s_l_bent : Stmt := (top 10)
abbrev n_l_bent : List Str := ["_law_state_here", "_law_told", "_law_way", "_law_at"]
theorem sc_l_bent : FnScope ["_law_state_here", "_law_told", "_law_way", "_law_at"] ["_law_state_here", "_law_told"] (defScope s_l_bent) := ⟨rfl, rfl, rfl, by decide +kernel, rfl, by decide +kernel, by decide +kernel⟩
abbrev s_l_right : Stmt := (top 11)
abbrev n_l_right : List Str := ["_law_state_here", "_law_told", "_law_second", "_law_one", "_law_other", "_law_wanted"]
theorem sc_l_right : FnScope ["_law_state_here", "_law_told", "_law_second", "_law_one", "_law_other", "_law_wanted"] ["_law_state_here"] (defScope s_l_right) := ⟨rfl, rfl, rfl, by decide +kernel, rfl, by decide +kernel, by decide +kernel⟩
abbrev s_Say___init__ : Stmt := (inClass (top 2) 0)
abbrev n_Say___init__ : List Str := ["self", "number", "root", "far"]
theorem sc_Say___init__ : FnScope ["self", "number", "root", "far"] ["self", "number", "root", "far"] (defScope s_Say___init__) := ⟨rfl, rfl, rfl, by decide +kernel, rfl, by decide +kernel, by decide +kernel⟩
abbrev s_Say___eq__ : Stmt := (inClass (top 2) 1)
abbrev n_Say___eq__ : List Str := ["self", "other"]
theorem sc_Say___eq__ : FnScope ["self", "other"] ["self", "other"] (defScope s_Say___eq__) := ⟨rfl, rfl, rfl, by decide +kernel, rfl, by decide +kernel, by decide +kernel⟩
abbrev s_Say_told : Stmt := (inClass (top 2) 2)
abbrev n_Say_told : List Str := ["self"]
theorem sc_Say_told : FnScope ["self"] ["self"] (defScope s_Say_told) := ⟨rfl, rfl, rfl, by decide +kernel, rfl, by decide +kernel, by decide +kernel⟩
abbrev s_Agree___init__ : Stmt := (inClass (top 3) 0)
abbrev n_Agree___init__ : List Str := ["self", "number"]
theorem sc_Agree___init__ : FnScope ["self", "number"] ["self", "number"] (defScope s_Agree___init__) := ⟨rfl, rfl, rfl, by decide +kernel, rfl, by decide +kernel, by decide +kernel⟩
abbrev s_Agree___eq__ : Stmt := (inClass (top 3) 1)
abbrev n_Agree___eq__ : List Str := ["self", "other"]
theorem sc_Agree___eq__ : FnScope ["self", "other"] ["self", "other"] (defScope s_Agree___eq__) := ⟨rfl, rfl, rfl, by decide +kernel, rfl, by decide +kernel, by decide +kernel⟩
abbrev s_Agree_told : Stmt := (inClass (top 3) 2)
abbrev n_Agree_told : List Str := ["self"]
theorem sc_Agree_told : FnScope ["self"] ["self"] (defScope s_Agree_told) := ⟨rfl, rfl, rfl, by decide +kernel, rfl, by decide +kernel, by decide +kernel⟩
abbrev s_law : Stmt := (top 12)
abbrev n_law : List Str := ["_law_script", "_law_state_here", "_law_turn"]
theorem sc_law : FnScope ["_law_script", "_law_state_here", "_law_turn"] ["_law_script"] (defScope s_law) := ⟨rfl, rfl, rfl, by decide +kernel, rfl, by decide +kernel, by decide +kernel⟩
def perm_0 {α : Type} : List α → List α := id
theorem perm_rel_0 {vs : List V} {us : List Value} {zs : List V} {ws : List Value} (h : Vals vs us) (k : Vals zs ws) : Vals (vs ++ perm_0 zs) (us ++ perm_0 ws) := h.append k
def perm_1_2_0 {α : Type} : List α → List α
  | [x, y, z] => [y, z, x]
  | l => l
theorem perm_rel_1_2_0 {vs : List V} {us : List Value} {zs : List V} {ws : List Value} (h : Vals vs us) (k : Vals zs ws) : Vals (vs ++ perm_1_2_0 zs) (us ++ perm_1_2_0 ws) := by
  refine h.append ?_
  match zs, ws, k with
  | [], _, .nil => exact .nil
  | [x], _, .cons r .nil => exact .cons r .nil
  | [x, y], _, .cons r (.cons q .nil) => exact .cons r (.cons q .nil)
  | [x, y, z], _, .cons r (.cons q (.cons p .nil)) => exact .cons q (.cons p (.cons r .nil))
  | x :: y :: z :: t :: l, _, .cons r (.cons q (.cons p (.cons o l2))) => exact .cons r (.cons q (.cons p (.cons o l2)))
structure Tx (K : PySem.W.Frag) (mg : Str → Option Value) where
  c_Letter : Addr
  g_Letter : mg "Letter" = some (.ref c_Letter)
  cl_Letter : Cls K c_Letter
  c_Say : Addr
  g_Say : mg "Say" = some (.ref c_Say)
  cl_Say : Cls K c_Say
  c_Agree : Addr
  g_Agree : mg "Agree" = some (.ref c_Agree)
  cl_Agree : Cls K c_Agree
  a_l_state : Addr
  d_l_state : FuncData
  F_l_state : Fun K "_law_state" "_law_state" s_l_state a_l_state d_l_state
  b_l_state : Binds K d_l_state ["_law_script"] []
  g_l_state : mg "_law_state" = some (.ref a_l_state)
  a_l_draw : Addr
  d_l_draw : FuncData
  F_l_draw : Fun K "_law_draw" "_law_draw" s_l_draw a_l_draw d_l_draw
  b_l_draw : Binds K d_l_draw ["_law_state_here", "_law_many"] []
  g_l_draw : mg "_law_draw" = some (.ref a_l_draw)
  a_l_alike : Addr
  d_l_alike : FuncData
  F_l_alike : Fun K "_law_alike" "_law_alike" s_l_alike a_l_alike d_l_alike
  b_l_alike : Binds K d_l_alike ["_law_one", "_law_other"] []
  g_l_alike : mg "_law_alike" = some (.ref a_l_alike)
  a_l_letter : Addr
  d_l_letter : FuncData
  F_l_letter : Fun K "_law_letter" "_law_letter" s_l_letter a_l_letter d_l_letter
  b_l_letter : Binds K d_l_letter ["_law_state_here"] []
  g_l_letter : mg "_law_letter" = some (.ref a_l_letter)
  a_l_made : Addr
  d_l_made : FuncData
  F_l_made : Fun K "_law_made" "_law_made" s_l_made a_l_made d_l_made
  b_l_made : Binds K d_l_made ["_law_told", "_law_named"] []
  g_l_made : mg "_law_made" = some (.ref a_l_made)
  a_l_bent : Addr
  d_l_bent : FuncData
  F_l_bent : Fun K "_law_bent" "_law_bent" s_l_bent a_l_bent d_l_bent
  b_l_bent : Binds K d_l_bent ["_law_state_here", "_law_told"] []
  g_l_bent : mg "_law_bent" = some (.ref a_l_bent)
  a_l_right : Addr
  d_l_right : FuncData
  F_l_right : Fun K "_law_right" "_law_right" s_l_right a_l_right d_l_right
  b_l_right : Binds K d_l_right ["_law_state_here"] []
  g_l_right : mg "_law_right" = some (.ref a_l_right)
  a_Say___init__ : Addr
  d_Say___init__ : FuncData
  F_Say___init__ : Fun K "__init__" "Say.__init__" s_Say___init__ a_Say___init__ d_Say___init__
  b_Say___init__ : Binds K d_Say___init__ ["self", "number", "root", "far"] []
  m_Say : Mk K c_Say a_Say___init__
  kb_Say___init___far_number_root : KBn K d_Say___init__ ["self", "number", "root", "far"] 1 ["far", "number", "root"] (fun us ws => us ++ perm_1_2_0 ws) (fun us ws => us ++ perm_1_2_0 ws)
  a_Say___eq__ : Addr
  d_Say___eq__ : FuncData
  F_Say___eq__ : Fun K "__eq__" "Say.__eq__" s_Say___eq__ a_Say___eq__ d_Say___eq__
  b_Say___eq__ : Binds K d_Say___eq__ ["self", "other"] []
  me_Say___eq__ : Meth K c_Say "__eq__" a_Say___eq__
  a_Say_told : Addr
  d_Say_told : FuncData
  F_Say_told : Fun K "told" "Say.told" s_Say_told a_Say_told d_Say_told
  b_Say_told : Binds K d_Say_told ["self"] []
  me_Say_told : Meth K c_Say "told" a_Say_told
  a_Agree___init__ : Addr
  d_Agree___init__ : FuncData
  F_Agree___init__ : Fun K "__init__" "Agree.__init__" s_Agree___init__ a_Agree___init__ d_Agree___init__
  b_Agree___init__ : Binds K d_Agree___init__ ["self", "number"] []
  m_Agree : Mk K c_Agree a_Agree___init__
  kb_Agree___init___number : KBn K d_Agree___init__ ["self", "number"] 1 ["number"] (fun us ws => us ++ perm_0 ws) (fun us ws => us ++ perm_0 ws)
  a_Agree___eq__ : Addr
  d_Agree___eq__ : FuncData
  F_Agree___eq__ : Fun K "__eq__" "Agree.__eq__" s_Agree___eq__ a_Agree___eq__ d_Agree___eq__
  b_Agree___eq__ : Binds K d_Agree___eq__ ["self", "other"] []
  me_Agree___eq__ : Meth K c_Agree "__eq__" a_Agree___eq__
  a_Agree_told : Addr
  d_Agree_told : FuncData
  F_Agree_told : Fun K "told" "Agree.told" s_Agree_told a_Agree_told d_Agree_told
  b_Agree_told : Binds K d_Agree_told ["self"] []
  me_Agree_told : Meth K c_Agree "told" a_Agree_told
  a_law : Addr
  d_law : FuncData
  F_law : Fun K "law" "law" s_law a_law d_law
  b_law : Binds K d_law ["_law_script"] []
  g_law : mg "law" = some (.ref a_law)
  e_Say : EqC K c_Say a_Say___eq__
  q_Say : IsiC K c_Say
  e_Agree : EqC K c_Agree a_Agree___eq__
  q_Agree : IsiC K c_Agree
  kt_Say_Letter : PySem.W.kitOne K (.ref c_Say) (.ref c_Letter) = some true
  kt_Agree_Letter : PySem.W.kitOne K (.ref c_Agree) (.ref c_Letter) = some true
  kt_Say_Agree : PySem.W.kitOne K (.ref c_Say) (.ref c_Agree) = some false
  kt_Agree_Say : PySem.W.kitOne K (.ref c_Agree) (.ref c_Say) = some false
  sb_Say_Agree : PySem.W.subIn K (.ref c_Agree) (.ref c_Say) = some false
  sb_Agree_Say : PySem.W.subIn K (.ref c_Say) (.ref c_Agree) = some false
  n_Say_number : NoAttr K c_Say "number"
  n_Say_root : NoAttr K c_Say "root"
  n_Say_far : NoAttr K c_Say "far"
  n_Agree_number : NoAttr K c_Agree "number"
  z_abs : mg "abs" = none
  z_len : mg "len" = none
  z_range : mg "range" = none
  z_list : mg "list" = none
  z_all : mg "all" = none
  z_isinstance : mg "isinstance" = none
  z_tuple : mg "tuple" = none
  z_int : mg "int" = none
  z_bool : mg "bool" = none
  z_str : mg "str" = none
end K15

set_option maxHeartbeats 2000000
namespace K15
open PySem PySem.Spec PyProof.Rows L2 Evl MyG
/-! ### the drawing state: a list [cells, place, last] at s, the cells at c -/
structure Sta (s c : Addr) (H : Hp) : Prop where
  ne : s ≠ c
  ex : ∃ (cells : List Int) (i j : Int), H s = some (.lst [.ref c, .int i, .int j]) ∧ H c = some (.lst (cells.map V.int)) ∧ cells ≠ [] ∧ (∀ x ∈ cells, 0 ≤ x) ∧ 0 ≤ i ∧ 0 ≤ j ∧ j < 2147483647
def Off (s c : Addr) (H H' : Hp) : Prop := ∀ a, a ≠ s → a ≠ c → H' a = H a
def sp_state (K : PySem.W.Frag) : Sp := fun vs H Q _ => ∃ (a : Addr) (ns : List Int), vs = [.ref a] ∧ SqL K H a (ns.map V.int) ∧ ns.length ≤ 63 ∧ ∀ s c H', Ex H H' → H s = none → H c = none → Sta s c H' → Q (.ref s) H'
def sp_draw : Sp := fun vs H Q _ => ∃ (s c : Addr) (m : Int), vs = [.ref s, .int m] ∧ Sta s c H ∧ 0 < m ∧ m < 1073741824 ∧ ∀ r H', 0 ≤ r → r < m → Sta s c H' → Off s c H H' → Q (.int r) H'
theorem fmod_bd {a m : Int} (h : 0 < m) : 0 ≤ a.fmod m ∧ a.fmod m < m := ⟨Int.fmod_nonneg_of_pos a h, Int.fmod_lt_of_pos a h⟩
theorem ints_at {ns : List Int} {k : Int} (h0 : 0 ≤ k) (h1 : k < (ns.length : Int)) : ∃ x, ns[k.toNat]? = some x ∧ atI (ns.map V.int) k = some (.int x) ∧ x ∈ ns := by
  have hk : k.toNat < ns.length := by omega
  refine ⟨ns[k.toNat], List.getElem?_eq_getElem hk, ?_, List.getElem_mem hk⟩
  refine at_of (j := k.toNat) (by omega) ?_
  rw [List.getElem?_map, List.getElem?_eq_getElem hk]
  rfl
theorem map_set_int (ns : List Int) (j : Nat) (y : Int) : (ns.map V.int).set j (.int y) = (ns.set j y).map V.int := by
  rw [List.map_set]
theorem mem_set {ns : List Int} {j : Nat} {y : Int} (h : ∀ x ∈ ns, 0 ≤ x) (hy : 0 ≤ y) : ∀ x ∈ ns.set j y, 0 ≤ x := fun x hx => by
  rcases List.mem_or_eq_of_mem_set hx with e | e
  · exact h x e
  · rw [e]; exact hy
theorem go_L {te : TE} {σ : L2.St} {H : Hp} {xs : List V} {Q : VK} (h : EvL te σ H xs) (k : ∀ p H1, H p = none → Ex H H1 → H1 p = some (.lst xs) → Q (.ref p) H1) : te σ H Q := h H (Ex.refl H) Q k
theorem go_U {te : TE} {σ : L2.St} {H : Hp} {xs : List V} {Q : VK} (h : EvU te σ H xs) (k : ∀ p H1, H p = none → Ex H H1 → H1 p = some (.tup xs) → Q (.ref p) H1) : te σ H Q := h H (Ex.refl H) Q k
theorem go_V {te : TE} {σ : L2.St} {H : Hp} {v : V} {Q : VK} (h : Ev te σ H v) (k : ∀ H1, Ex H H1 → Q v H1) : te σ H Q := h H (Ex.refl H) Q k
section
variable {P : Program} {w : World} {K : PySem.W.Frag} {mg : Str → Option Value} {base : Heap}
theorem ok_draw (T : Tx K mg) : FnOk P w K mg base CX0 1 T.a_l_draw T.d_l_draw ["_law_state_here", "_law_many"] sp_draw := by
  refine T.F_l_draw.ok sc_l_draw (fun vs H Q E h => ?_) (fun cdv A outer s H vs Q E hr h => ?_)
  · obtain ⟨_, _, _, rfl, _⟩ := h
    rfl
  · obtain ⟨s, c, m, rfl, hst, hm0, hm1, q⟩ := h
    refine ⟨_, (pss_cons (ps_set (i := 2) sc_l_draw.nd rfl (Or.inl rfl) (pe_ix (ix_listK (K := K) rfl) (pv 0) pe_int (fun _ _ => rfl)))
  (pss_cons (ps_set (i := 3) sc_l_draw.nd rfl (Or.inl rfl) (pe_op op_modN (pe_ix (ix_listK (K := K) rfl) (pv 0) pe_int (fun _ _ => rfl)) (pe_callB (lenK (K := K) rfl) (by rfl) T.z_len (by decide +kernel) (pa_cons (pv 2) pa_nil))))
  (pss_cons (ps_set (i := 4) sc_l_draw.nd rfl (Or.inl rfl) (pe_ix (ix_listK (K := K) rfl) (pv 2) (pv 3) (fun _ _ => rfl)))
  (pss_cons (ps_if (pt_cmpR op_ge (pv 4) pe_int (nomark _)) (pss_cons (ps_asg (pe_op op_fdivN (pv 4) (pv 1)) (pg_sub (pv 2) (pv 3) set_list))
  (pss_one (ps_ret (pe_op op_modN (pv 4) (pv 1))))) pss_nil)
  (pss_cons (ps_asg (pe_op op_add (pe_ix (ix_listK (K := K) rfl) (pv 0) pe_int (fun _ _ => rfl)) pe_int) (pg_sub (pv 0) pe_int set_list))
  (pss_cons (ps_asg (pe_op op_modN (pe_op op_add (pe_op op_add (pe_op op_mul (pe_ix (ix_listK (K := K) rfl) (pv 0) pe_int (fun _ _ => rfl)) pe_int) (pv 4)) pe_int) pe_int) (pg_sub (pv 0) pe_int set_list))
  (pss_one (ps_ret (pe_op op_modN (pe_op op_fdivN (pe_op op_modN (pe_op op_mul (pe_ix (ix_listK (K := K) rfl) (pv 0) pe_int (fun _ _ => rfl)) (pe_ix (ix_listK (K := K) rfl) (pv 0) pe_int (fun _ _ => rfl))) pe_int) pe_int) (pv 1)))))))))), ?_⟩
    obtain ⟨nsc, cells, i, j, hs, hc, hne, hpos, hi, hj0, hj1⟩ := hst
    have hlen : 0 < (cells.length : Int) := by
      have := List.length_pos_iff.mpr hne
      omega
    -- cells = state[0]; at = state[1] % len(cells)
    refine ⟨_, rfl, s, _, 0, _, rfl, rfl, SqL.of hs, atI_nat (j := 0) rfl, _, rfl, s, _, 1, _, rfl, rfl, SqL.of hs, atI_nat (j := 1) rfl, _, rfl, c, _, rfl, .inl (SqL.of hc), _, _, rfl, rfl, ?_, ?_⟩
    · rw [List.length_map]; omega
    rw [List.length_map]
    have hat := fmod_bd (a := i) hlen
    generalize hdef : i.fmod (cells.length : Int) = at_ at hat
    obtain ⟨x, hx, hxa, hxm⟩ := ints_at hat.1 hat.2
    have hx0 := hpos x hxm
    -- cell = cells[at]
    refine ⟨_, rfl, _, rfl, c, _, at_, _, rfl, congrArg V.int hdef, SqL.of hc, hxa, ?_⟩
    -- if cell >= ..
    refine ⟨_, rfl, x, _, rfl, rfl, _, rfl, ite2 (fun _ => ?_) (fun _ => ?_)⟩
    · -- cells[at] = cell // many
      refine ⟨_, rfl, _, rfl, x, m, rfl, rfl, ⟨by omega, by omega⟩, _, rfl, _, rfl, c, _, at_, at_.toNat, rfl, congrArg V.int hdef, hc, ?_, ?_⟩
      · have e : at_ = (at_.toNat : Int) := by omega
        rw [e]
        exact Evl.ixN_nat (by rw [List.length_map]; omega)
      refine ⟨_, rfl, _, rfl, x, m, rfl, rfl, by omega, ?_⟩
      have hb := fmod_bd (a := x) hm0
      refine q _ _ hb.1 hb.2 ⟨nsc, cells.set at_.toNat (x.fdiv m), i, j, ?_, ?_, ?_, ?_, hi, hj0, hj1⟩ (fun a ha hac => upd_ne hac)
      · rw [upd_ne nsc]; exact hs
      · rw [upd_same, map_set_int]
      · exact fun z => hne (by simpa using z)
      · refine mem_set hpos ?_
        rw [Int.fdiv_eq_ediv_of_nonneg _ (by omega)]
        exact Int.ediv_nonneg hx0 (by omega)
    · -- state[1] = state[1] + 1
      refine ⟨_, rfl, s, _, 1, _, rfl, rfl, SqL.of hs, atI_nat (j := 1) rfl, _, _, rfl, rfl, _, rfl, s, _, 1, 1, rfl, rfl, hs, Evl.ixN_nat (j := 1) (by show 1 < 3; decide), ?_⟩
      have hs1 : (upd H s (.lst ([V.ref c, .int i, .int j].set 1 (.int (i + 1))))) s = some (.lst [.ref c, .int (i + 1), .int j]) := upd_same
      -- state[2] = ..
      refine ⟨_, rfl, s, _, 2, _, rfl, rfl, SqL.of hs1, atI_nat (j := 2) rfl, _, _, rfl, rfl, .inl ⟨by omega, by omega⟩, _, rfl, _, _, rfl, rfl, _, _, rfl, rfl, _, _, rfl, rfl, (by show (2147483647 : Int) ≠ 0; decide), _, rfl, s, _, 2, 2, rfl, rfl, hs1, Evl.ixN_nat (j := 2) (by show 2 < 3; decide), ?_⟩
      have hb := fmod_bd (a := j * 69621 + x + 7919) (m := 2147483647) (by decide)
      generalize hdj : (j * 69621 + x + 7919).fmod 2147483647 = j' at hb
      have hs2 : (upd (upd H s (.lst ([V.ref c, .int i, .int j].set 1 (.int (i + 1))))) s (.lst ([V.ref c, .int (i + 1), .int j].set 2 (.int ((j * 69621 + x + 7919).fmod 2147483647))))) s = some (.lst [.ref c, .int (i + 1), .int j']) := by
        rw [upd_same, hdj]
        rfl
      -- return ..
      refine ⟨_, rfl, s, _, 2, _, rfl, rfl, SqL.of hs2, atI_nat (j := 2) rfl, _, rfl, s, _, 2, _, rfl, rfl, SqL.of hs2, atI_nat (j := 2) rfl, _, _, rfl, rfl, .inl ⟨by omega, by omega⟩, _, _, rfl, rfl, (by show (2147483587 : Int) ≠ 0; decide), _, _, rfl, rfl, ⟨by show (8 : Int) ≠ 0; decide, by show (8 : Int).natAbs < 1073741824; decide⟩, _, rfl, _, _, rfl, rfl, by omega, ?_⟩
      have hb2 := fmod_bd (a := ((j' * j').fmod 2147483587).fdiv 8) hm0
      refine q _ _ hb2.1 hb2.2 ⟨nsc, cells, i + 1, j', hs2, ?_, hne, hpos, by omega, hb.1, hb.2⟩ (fun a ha hac => ?_)
      · rw [upd_ne nsc.symm, upd_ne nsc.symm]; exact hc
      · rw [upd_ne ha, upd_ne ha]
/-! ### the first state -/
theorem ok_state (T : Tx K mg) : FnOk P w K mg base CX0 1 T.a_l_state T.d_l_state ["_law_script"] (sp_state K) := by
  refine T.F_l_state.ok sc_l_state (fun vs H Q E h => ?_) (fun cdv A outer s H vs Q E hr h => ?_)
  · obtain ⟨_, _, rfl, _⟩ := h
    rfl
  · obtain ⟨a, ns, rfl, hS, hlen, q⟩ := h
    refine ⟨_, (pss_one (ps_ret (pe_lst (pa_cons (orTK (K := K) rfl (pe_lc (own := [("_law_cell", 1)]) (g := (gName 1)) (tt := tYes) rfl sc_l_state.nd (iListK (K := K) rfl (pe_slice (sl_listK (K := K) rfl) (pv 0) po_none (po_some pe_int))) (blkOk_by (N := n_l_state) (sc := defScope s_l_state) (by decide +kernel)) (fun _ _ _ _ _ => (pg_name (i := 1) sc_l_state.nd rfl (Or.inl rfl))) (fun _ _ _ _ _ => pts_nil) (fun _ _ _ _ _ => (pe_callB call_abs (by rfl) T.z_abs (by decide +kernel) (pa_cons (pv 1) pa_nil)))) (pe_one (pe_lst (pa_cons pe_int pa_nil)))) (pa_cons pe_int (pa_cons pe_int pa_nil)))))), ?_⟩
    generalize hg : ns.map (fun i => if i < 0 then -i else i) = cells
    have pos : ∀ x ∈ cells, 0 ≤ x := fun x hx => by
      rw [← hg] at hx
      obtain ⟨y, _, rfl⟩ := List.mem_map.mp hx
      split <;> omega
    refine un_ret (un_lst (un_cons ?_))
    refine go_L (el_or (xs := cells.map V.int) (ys := [.int 7]) (el_mapF (xs := ns.map V.int) ?_ (by rw [List.length_map]; omega) (by rw [← hg]; simp) (fun x => rfl) (fun i x y H1 e hx hy => ?_)) (fun _ => el_lst (ea_cons ev_c ea_nil) (by decide))) (fun c H1 hc e1 h1 => ?_)
    · have k := el_sl (K := K) (lo := none) (hi := some ((63 : Nat) : Int)) (te := tVar 0) (ev_var (σ := L2.start [Str.ofString "_law_script", Str.ofString "_law_cell"] [V.ref a]) (H := H) rfl) eo_none (eo_some ev_c) hS
      rw [cut_all _ (by rw [List.length_map]; exact hlen)] at k
      exact k
    · rw [← hg, List.getElem?_map, List.getElem?_map] at hy
      rw [List.getElem?_map] at hx
      cases hi : ns[i]? with
      | none =>
        rw [hi] at hx
        cases hx
      | some z =>
        rw [hi] at hx hy
        obtain rfl := Option.some.inj hx
        obtain rfl := Option.some.inj hy
        exact fun H2 e2 Q q => ⟨_, rfl, z, rfl, q _ (Ex.refl _)⟩
    · refine ⟨by show 3 ≤ sizeLine; decide, fun p hp => ?_⟩
      have n2 : c ≠ p := ne_of_none h1 hp
      obtain ⟨cs, hcs, hne, hps⟩ : ∃ cs : List Int, (if (cells.map V.int).isEmpty then [V.int 7] else cells.map V.int) = cs.map V.int ∧ cs ≠ [] ∧ ∀ x ∈ cs, 0 ≤ x := by
        cases cells with
        | nil => exact ⟨[7], rfl, by decide, by decide⟩
        | cons x r => exact ⟨x :: r, rfl, by simp, pos⟩
      rw [hcs] at h1
      exact q p c _ (e1.trans (Ex.new hp)) (fresh_back e1 hp) hc ⟨n2.symm, cs, 0, 1, upd_same, by rw [upd_ne n2]; exact h1, hne, hps, by decide, by decide, by decide⟩
end
end K15

set_option maxHeartbeats 2000000
namespace K15
open PySem PySem.Spec PyProof.Rows L2 Evl MyG
section
variable {P : Program} {w : World} {K : PySem.W.Frag} {mg : Str → Option Value} {base : Heap}
theorem ok_alike (T : Tx K mg) : ∀ k, FnOk P w K mg base CX0 k T.a_l_alike T.d_l_alike ["_law_one", "_law_other"] (sp_alike k)
  | 0 => ⟨fun vs H Q E h => by obtain ⟨_, _, d, rfl, _⟩ := h; rfl, fun A st s H c us vs Q E r e b rel h => by
      obtain ⟨_, _, d, _, _, _, z, _⟩ := h
      exact absurd z (by simp [alk])⟩
  | k + 1 => by
    have G_l_alike := ok_alike T k
    refine T.F_l_alike.ok sc_l_alike (fun vs H Q E h => ?_) (fun cdv A outer s H vs Q E hr h => ?_)
    · obtain ⟨_, _, d, rfl, _⟩ := h
      rfl
    · obtain ⟨x, y, d, rfl, hx, hy, ha, q⟩ := h
      refine ⟨_, (pss_cons (ps_if (pt_val (pe_callB (isiTK (K := K) rfl) (by rfl) T.z_isinstance (by decide +kernel) (pa_cons (pv 1) (pa_cons (pe_tup (pa_cons (pe_bltn (v := .ty "list") (by rfl) T.z_list (by decide +kernel) rfl) (pa_cons (pe_bltn (v := .ty "tuple") (by rfl) T.z_tuple (by decide +kernel) rfl) pa_nil))) pa_nil)))) (pss_cons (ps_if (PW.pt (pw_or (pt_cmpR op_ne (pe_callB (isiK (K := K) rfl) (by rfl) T.z_isinstance (by decide +kernel) (pa_cons (pv 0) (pa_cons (pe_bltn (v := .ty "list") (by rfl) T.z_list (by decide +kernel) rfl) pa_nil))) (pe_callB (isiK (K := K) rfl) (by rfl) T.z_isinstance (by decide +kernel) (pa_cons (pv 1) (pa_cons (pe_bltn (v := .ty "list") (by rfl) T.z_list (by decide +kernel) rfl) pa_nil))) (nomark _)) (pw_or1 (pt_cmpR op_ne (pe_callB (isiK (K := K) rfl) (by rfl) T.z_isinstance (by decide +kernel) (pa_cons (pv 0) (pa_cons (pe_bltn (v := .ty "tuple") (by rfl) T.z_tuple (by decide +kernel) rfl) pa_nil))) (pe_callB (isiK (K := K) rfl) (by rfl) T.z_isinstance (by decide +kernel) (pa_cons (pv 1) (pa_cons (pe_bltn (v := .ty "tuple") (by rfl) T.z_tuple (by decide +kernel) rfl) pa_nil))) (nomark _))))) (pss_one (ps_ret pe_bl)) pss_nil)
  (pss_one (ps_ret (pe_and (pe_cmpR op_eq (pe_callB (lenK (K := K) rfl) (by rfl) T.z_len (by decide +kernel) (pa_cons (pv 0) pa_nil)) (pe_callB (lenK (K := K) rfl) (by rfl) T.z_len (by decide +kernel) (pa_cons (pv 1) pa_nil)) (nomark _)) (pe_one (pe_callB (allK (K := K) rfl rfl) (by rfl) T.z_all (by decide +kernel) (pa_cons (pe_lc (own := [("_law_k", 2)]) (g := (gName 2)) (tt := tYes) rfl sc_l_alike.nd (pi_range1 rfl T.z_range (pa_cons (pe_callB (lenK (K := K) rfl) (by rfl) T.z_len (by decide +kernel) (pa_cons (pv 1) pa_nil)) pa_nil)) (blkOk_by (N := n_l_alike) (sc := defScope s_l_alike) (by decide +kernel)) (fun _ _ _ _ _ => (pg_name (i := 2) sc_l_alike.nd rfl (Or.inl rfl))) (fun _ _ _ _ _ => pts_nil) (fun _ _ _ _ _ => (pe_call G_l_alike hr (by rfl) T.g_l_alike T.F_l_alike.kp T.b_l_alike .nil pass0 (pa_cons (pe_either (pe_ix (ix_listK (K := K) rfl) (pv 0) (pv 2) (fun _ _ => rfl)) (pe_ix (ix_tupK (K := K) rfl) (pv 0) (pv 2) (fun _ _ => rfl))) (pa_cons (pe_either (pe_ix (ix_listK (K := K) rfl) (pv 1) (pv 2) (fun _ _ => rfl)) (pe_ix (ix_tupK (K := K) rfl) (pv 1) (pv 2) (fun _ _ => rfl))) pa_nil))))) pa_nil))))))) pss_nil)
  (pss_cons (ps_if (pt_val (pe_callB (isiK (K := K) rfl) (by rfl) T.z_isinstance (by decide +kernel) (pa_cons (pv 1) (pa_cons (pe_bltn (v := .ty "str") (by rfl) T.z_str (by decide +kernel) rfl) pa_nil)))) (pss_one (ps_ret (pe_and (pe_callB (isiK (K := K) rfl) (by rfl) T.z_isinstance (by decide +kernel) (pa_cons (pv 0) (pa_cons (pe_bltn (v := .ty "str") (by rfl) T.z_str (by decide +kernel) rfl) pa_nil))) (pe_one (pe_cmpR op_eq (pv 0) (pv 1) (nomark _)))))) pss_nil)
  (pss_cons (ps_if (PW.pt (pw_or (pt_cmpR op_isN (pv 0) pe_non (nomark _)) (pw_or1 (pt_cmpR op_isN (pv 1) pe_non (nomark _))))) (pss_one (ps_ret (pe_and (pe_cmpR op_isN (pv 0) pe_non (nomark _)) (pe_one (pe_cmpR op_isN (pv 1) pe_non (nomark _)))))) pss_nil)
  (pss_cons (ps_if (pt_cmpR op_ne (pe_callB (isiK (K := K) rfl) (by rfl) T.z_isinstance (by decide +kernel) (pa_cons (pv 0) (pa_cons (pe_bltn (v := .ty "bool") (by rfl) T.z_bool (by decide +kernel) rfl) pa_nil))) (pe_callB (isiK (K := K) rfl) (by rfl) T.z_isinstance (by decide +kernel) (pa_cons (pv 1) (pa_cons (pe_bltn (v := .ty "bool") (by rfl) T.z_bool (by decide +kernel) rfl) pa_nil))) (nomark _)) (pss_one (ps_ret pe_bl)) pss_nil)
  (pss_one (ps_ret (pe_and (pe_callB (isiK (K := K) rfl) (by rfl) T.z_isinstance (by decide +kernel) (pa_cons (pv 0) (pa_cons (pe_bltn (v := .ty "int") (by rfl) T.z_int (by decide +kernel) rfl) pa_nil))) (pe_and (pe_callB (isiK (K := K) rfl) (by rfl) T.z_isinstance (by decide +kernel) (pa_cons (pv 1) (pa_cons (pe_bltn (v := .ty "int") (by rfl) T.z_int (by decide +kernel) rfl) pa_nil))) (pe_one (pe_cmpR op_eq (pv 0) (pv 1) (nomark _))))))))))), ?_⟩
      have lay : ∀ {p r : Addr} {xs ys : List V} {ds : List PyData} {b : Bool}, x = .ref p → y = .ref r → (H p = some (.lst xs) ∨ H p = some (.tup xs)) → (H r = some (.lst ys) ∨ H r = some (.tup ys)) → DqAll H xs ds → DqAll H ys ds → ds.length ≤ 1000 → ds.all (alk k) = true →
          ∀ H1, Ex H H1 → tRet
          (tAndV (tOp rEq (tCB (rLenQ K) (tCons (tVar 0) tNil)) (tCB (rLenQ K) (tCons (tVar 1) tNil)))
            (tCB (rAll K)
              (tCons
                (tLc (iRng1 (tCons (tCB (rLenQ K) (tCons (tVar 1) tNil)) tNil)) (gName 2) tYes
                  (tCall (sp_alike k) [] E0
                    (tCons (tEi (tOp (rIxL K) (tVar 0) (tVar 2)) (tOp (rIxT K) (tVar 0) (tVar 2)))
                      (tCons (tEi (tOp (rIxL K) (tVar 1) (tVar 2)) (tOp (rIxT K) (tVar 1) (tVar 2))) tNil)))
                  [2])
                tNil))) { nx := fun x H' => Q V.non H', rt := Q } [some x, some y, none] H1 := by
        intro p r xs ys ds b ex ey hp hr0 hds hes hl hk H1 e1
        subst ex ey
        have lx := hds.len
        have ly := hes.len
        have hp1 : H1 p = some (.lst xs) ∨ H1 p = some (.tup xs) := hp.elim (fun z => .inl (e1 _ _ z)) (fun z => .inr (e1 _ _ z))
        have hr1 : H1 r = some (.lst ys) ∨ H1 r = some (.tup ys) := hr0.elim (fun z => .inl (e1 _ _ z)) (fun z => .inr (e1 _ _ z))
        refine s_ret (v := .bl true) (ev_is (ev_andV (a := true) (b := true) (ev_is (ev_op (ev_lenA (ev_var rfl) hp1) (ev_lenA (ev_var rfl) hr1) (rv_eq rfl)) ?_) fun _ => ev_is (ev_allN (bs := List.replicate ys.length true) (el_mapR (ys := (List.replicate ys.length true).map V.bl) (ea_cons (ev_is (ev_lenA (ev_var rfl) hr1) (by simp)) ea_nil) (by simp; omega) (fun x => rfl) ?_)) ?_) rfl) fun H2 e2 => q H2 (e1.trans e2)
        · rw [lx, ly, decide_eq_true rfl]
        · intro i v H2 e2 hv
          rw [List.map_replicate] at hv
          obtain ⟨hi, rfl⟩ : i < ys.length ∧ V.bl true = v := by
            obtain ⟨h1, h2⟩ := List.getElem?_eq_some_iff.mp hv
            rw [List.getElem_replicate] at h2
            exact ⟨by simpa using h1, h2⟩
          have hix : i < xs.length := by omega
          obtain ⟨d1, h1, h2⟩ := hds.at (List.getElem?_eq_getElem hix)
          obtain ⟨d2, h3, h4⟩ := hes.at (List.getElem?_eq_getElem hi)
          rw [h1] at h3
          obtain rfl := Option.some.inj h3
          have hp2 : H2 p = some (.lst xs) ∨ H2 p = some (.tup xs) := hp1.elim (fun z => .inl (e2 _ _ z)) (fun z => .inr (e2 _ _ z))
          have hr2 : H2 r = some (.lst ys) ∨ H2 r = some (.tup ys) := hr1.elim (fun z => .inl (e2 _ _ z)) (fun z => .inr (e2 _ _ z))
          refine ev_call (ea_cons (ev_ixq hp2 (ev_var rfl) (ev_var rfl) (List.getElem?_eq_getElem hix)) (ea_cons (ev_ixq hr2 (ev_var rfl) (ev_var rfl) (List.getElem?_eq_getElem hi)) ea_nil)) ?_
          exact fun H3 e3 Q q E => ⟨_, _, d1, rfl, h2.ext ((e1.trans e2).trans e3), h4.ext ((e1.trans e2).trans e3), List.all_eq_true.mp hk _ (List.mem_of_getElem? h1), q⟩
        · simp
      have ne0 : ∀ {t u : String} {H2 : Hp} {a b : V}, AnyT H2 x t → AnyT H2 y t → EvT (tTest (tOp rNe (tCB (rIsi K) (tCons (tVar 0) (tCons (tC (V.ty "list")) tNil))) (tCB (rIsi K) (tCons (tVar 1) (tCons (tC (V.ty "list")) tNil))))) [some x, some y, none] H2 false := fun h1 h2 =>
        et_is (et_test (ev_op (ev_isi_list (ev_var rfl) h1) (ev_isi_list (ev_var rfl) h2) (rv_ne rfl))) (by simp)
      have ne1 : ∀ {t u : String} {H2 : Hp} {a b : V}, AnyT H2 x t → AnyT H2 y t → EvT (tTest (tOp rNe (tCB (rIsi K) (tCons (tVar 0) (tCons (tC (V.ty "tuple")) tNil))) (tCB (rIsi K) (tCons (tVar 1) (tCons (tC (V.ty "tuple")) tNil))))) [some x, some y, none] H2 false := fun h1 h2 =>
        et_is (et_test (ev_op (ev_isi_tuple (ev_var rfl) h1) (ev_isi_tuple (ev_var rfl) h2) (rv_ne rfl))) (by simp)
      have flat : ∀ (H0 : Hp), Ex H H0 → ∀ {t : String}, AnyT H0 x t → AnyT H0 y t → x = y → scal x y = true → (t == "list" || t == "tuple") = false → (t = "str" ∨ t = "NoneType" ∧ x = .non ∨ (t = "int" ∨ t = "bool") ∧ x ≠ .non) → tSeq
            (tIfS (tB (tCB (rIsi K) (tCons (tVar 1) (tCons (tC (V.ty "str")) tNil))))
              (tRet (tAndV (tCB (rIsi K) (tCons (tVar 0) (tCons (tC (V.ty "str")) tNil))) (tOp rEq (tVar 0) (tVar 1)))) tNext)
            (tSeq
              (tIfS
                (tOr (tTest (tOp (fun x y H Q => y = V.non ∧ Q (V.bl (decide (x = V.non))) H) (tVar 0) (tC V.non)))
                  (tTest (tOp (fun x y H Q => y = V.non ∧ Q (V.bl (decide (x = V.non))) H) (tVar 1) (tC V.non))))
                (tRet
                  (tAndV (tOp (fun x y H Q => y = V.non ∧ Q (V.bl (decide (x = V.non))) H) (tVar 0) (tC V.non))
                    (tOp (fun x y H Q => y = V.non ∧ Q (V.bl (decide (x = V.non))) H) (tVar 1) (tC V.non))))
                tNext)
              (tSeq
                (tIfS
                  (tTest
                    (tOp rNe (tCB (rIsi K) (tCons (tVar 0) (tCons (tC (V.ty "bool")) tNil)))
                      (tCB (rIsi K) (tCons (tVar 1) (tCons (tC (V.ty "bool")) tNil)))))
                  (tRet (tC (V.bl false))) tNext)
                (tRet
                  (tAndV (tCB (rIsi K) (tCons (tVar 0) (tCons (tC (V.ty "int")) tNil)))
                    (tAndV (tCB (rIsi K) (tCons (tVar 1) (tCons (tC (V.ty "int")) tNil))) (tOp rEq (tVar 0) (tVar 1)))))))
               { nx := fun x H' => Q V.non H', rt := Q } [some x, some y, none] H0 := by
        intro H0 e0 t h1 h2 exy sc _ hk
        subst exy
        rcases hk with rfl | ⟨rfl, rfl⟩ | ⟨hk, hn⟩
        · refine q_if (b := true) (et_is (et_B (ev_isi_str (ev_var rfl) h2)) rfl) (fun _ H1 e1 => ?_) (fun z => nomatch z)
          exact s_ret (v := .bl true) (ev_is (ev_andV (a := true) (b := true) (ev_isi_str (ev_var rfl) (h1.ext e1)) fun _ => ev_is (ev_op (ev_var rfl) (ev_var rfl) (rv_eq sc)) (by simp)) rfl) fun H2 e2 => q H2 (e0.trans (e1.trans e2))
        · refine q_when (b := false) (et_is (et_B (ev_isi_str (ev_var rfl) h2)) rfl) (fun z => nomatch z) fun _ H1 e1 => ?_
          refine q_if (b := true) (et_is (et_or (a := true) (b := true) (et_test (ev_is (ev_isN (ev_var rfl)) rfl)) (fun z => nomatch z)) rfl) (fun _ H2 e2 => ?_) (fun z => nomatch z)
          exact s_ret (v := .bl true) (ev_is (ev_andV (a := true) (b := true) (ev_is (ev_isN (ev_var rfl)) rfl) fun _ => ev_is (ev_isN (ev_var rfl)) rfl) rfl) fun H3 e3 => q H3 (e0.trans ((e1.trans e2).trans e3))
        · refine q_when (b := false) (et_is (et_B (ev_isi_str (ev_var rfl) h2)) (by rcases hk with rfl | rfl <;> rfl)) (fun z => nomatch z) fun _ H1 e1 => ?_
          refine q_when (b := false) (et_is (et_or (a := false) (b := false) (et_test (ev_is (ev_isN (ev_var rfl)) (by rw [decide_eq_false hn]))) (fun _ => et_test (ev_is (ev_isN (ev_var rfl)) (by rw [decide_eq_false hn])))) rfl) (fun z => nomatch z) fun _ H2 e2 => ?_
          refine q_when (b := false) (et_is (et_test (ev_op (ev_isi_bool (ev_var rfl) ((h1.ext e1).ext e2)) (ev_isi_bool (ev_var rfl) ((h2.ext e1).ext e2)) (rv_ne rfl))) (by simp)) (fun z => nomatch z) fun _ H3 e3 => ?_
          have i3 : ∀ {i : Nat}, [some x, some x, none][i]? = some (some x) → Ev (tCB (rIsi K) (tCons (tVar i) (tCons (tC (V.ty "int")) tNil))) [some x, some x, none] H3 (.bl true) := fun hi => ev_is (ev_isi_int (ev_var hi) (((h1.ext e1).ext e2).ext e3)) (by rcases hk with rfl | rfl <;> rfl)
          exact s_ret (v := .bl true) (ev_is (ev_andV (a := true) (b := true) (i3 rfl) fun _ => ev_is (ev_andV (a := true) (b := true) (i3 rfl) fun _ => ev_is (ev_op (ev_var rfl) (ev_var rfl) (rv_eq sc)) (by simp)) rfl) rfl) fun H4 e4 => q H4 (e0.trans (((e1.trans e2).trans e3).trans e4))
      have first : ∀ {t : String} {b : Bool}, AnyT H y t → (t == "list" || t == "tuple") = b → EvT (tB
        (tCB (rIsiT K)
          (tCons (tVar 1) (tCons (tTup (tCons (tC (V.ty "list")) (tCons (tC (V.ty "tuple")) tNil))) tNil)))) [some x, some y, none] H b := fun h e => et_is (et_B (ev_isiLT (ev_var rfl) h)) e
      cases hx with
      | lst h1 a1 =>
        cases hy with
        | lst h2 a2 =>
          simp only [alk, Bool.and_eq_true, decide_eq_true_eq] at ha
          refine q_if (b := true) (first (.lst h2) rfl) (fun _ H1 e1 => ?_) (fun z => nomatch z)
          refine q_when (b := false) (et_or (a := false) (b := false) (ne0 (u := "") (a := .non) (b := .non) (.lst (e1 _ _ h1)) (.lst (e1 _ _ h2))) (fun _ => ne1 (u := "") (a := .non) (b := .non) (.lst (e1 _ _ h1)) (.lst (e1 _ _ h2)))) (fun z => nomatch z) fun _ H2 e2 => ?_
          exact lay (b := true) rfl rfl (.inl h1) (.inl h2) a1 a2 ha.1 ha.2 H2 (e1.trans e2)
      | tup h1 a1 =>
        cases hy with
        | tup h2 a2 =>
          simp only [alk, Bool.and_eq_true, decide_eq_true_eq] at ha
          refine q_if (b := true) (first (.tup h2) rfl) (fun _ H1 e1 => ?_) (fun z => nomatch z)
          refine q_when (b := false) (et_or (a := false) (b := false) (ne0 (u := "") (a := .non) (b := .non) (.tup (e1 _ _ h1)) (.tup (e1 _ _ h2))) (fun _ => ne1 (u := "") (a := .non) (b := .non) (.tup (e1 _ _ h1)) (.tup (e1 _ _ h2)))) (fun z => nomatch z) fun _ H2 e2 => ?_
          exact lay (b := true) rfl rfl (.inr h1) (.inr h2) a1 a2 ha.1 ha.2 H2 (e1.trans e2)
      | non =>
        cases hy
        exact q_when (b := false) (first .non rfl) (fun z => nomatch z) fun _ H1 e1 => flat H1 e1 .non .non rfl rfl rfl (.inr (.inl ⟨rfl, rfl⟩))
      | bl b =>
        cases hy
        exact q_when (b := false) (first (.bl b) rfl) (fun z => nomatch z) fun _ H1 e1 => flat H1 e1 (.bl b) (.bl b) rfl rfl rfl (.inr (.inr ⟨.inr rfl, fun z => nomatch z⟩))
      | int i =>
        cases hy
        exact q_when (b := false) (first (.int i) rfl) (fun z => nomatch z) fun _ H1 e1 => flat H1 e1 (.int i) (.int i) rfl rfl rfl (.inr (.inr ⟨.inl rfl, fun z => nomatch z⟩))
      | str z =>
        cases hy
        exact q_when (b := false) (first (.str z) rfl) (fun z => nomatch z) fun _ H1 e1 => flat H1 e1 (.str z) (.str z) rfl rfl rfl (.inl rfl)
end
end K15

set_option maxHeartbeats 2000000
namespace K15
open PySem PySem.Spec PyProof.Rows L2 Evl MyG
/-! ### letters -/
inductive Lt where
  | say (n r f : Int)
  | agree (n : Int)
deriving DecidableEq
def Lt.vs : Lt → List V
  | .say n r f => [.str "say", .int n, .int r, .int f]
  | .agree n => [.str "agree", .int n]
def Lt.ds : Lt → List PyData
  | .say n r f => [.str "say", .int n, .int r, .int f]
  | .agree n => [.str "agree", .int n]
def fS (n r f : Int) : List (Str × V) := putF "far" (.int f) (putF "root" (.int r) (putF "number" (.int n) []))
def fA (n : Int) : List (Str × V) := putF "number" (.int n) []
theorem nr_ : ¬ (("number" : Str) = "root") := by decide +kernel
theorem nf_ : ¬ (("number" : Str) = "far") := by decide +kernel
theorem rf_ : ¬ (("root" : Str) = "far") := by decide +kernel
theorem tn_ : ¬ (("told" : Str) = "number") := by decide +kernel
theorem tr_ : ¬ (("told" : Str) = "root") := by decide +kernel
theorem tf_ : ¬ (("told" : Str) = "far") := by decide +kernel
theorem fS_n (n r f : Int) : (fS n r f).lookup ("number" : Str) = some (.int n) := by
  unfold fS
  rw [lookup_putF, if_neg nf_, lookup_putF, if_neg nr_, lookup_putF, if_pos rfl]
theorem fS_r (n r f : Int) : (fS n r f).lookup ("root" : Str) = some (.int r) := by
  unfold fS
  rw [lookup_putF, if_neg rf_, lookup_putF, if_pos rfl]
theorem fS_f (n r f : Int) : (fS n r f).lookup ("far" : Str) = some (.int f) := by
  unfold fS
  rw [lookup_putF, if_pos rfl]
theorem fS_t (n r f : Int) : (fS n r f).lookup ("told" : Str) = none := by
  unfold fS
  rw [lookup_putF, if_neg tf_, lookup_putF, if_neg tr_, lookup_putF, if_neg tn_]
  rfl
theorem fA_n (n : Int) : (fA n).lookup ("number" : Str) = some (.int n) := by
  unfold fA
  rw [lookup_putF, if_pos rfl]
theorem fA_t (n : Int) : (fA n).lookup ("told" : Str) = none := by
  unfold fA
  rw [lookup_putF, if_neg tn_]
  rfl
theorem putF_len (f : Str) (v : V) : ∀ fs : List (Str × V), (putF f v fs).length ≤ fs.length + 1
  | [] => Nat.le_refl _
  | (g, x) :: r => by
    unfold putF
    split
    · exact Nat.le_succ _
    · exact Nat.succ_le_succ (putF_len f v r)
/-- a letter stands at p; S, A: the classes -/
def LtAt (S A : Addr) (H : Hp) (p : Addr) : Lt → Prop
  | .say n r f => ∃ dx, H p = some (.ins S dx (fS n r f))
  | .agree n => ∃ dx, H p = some (.ins A dx (fA n))
theorem LtAt.ext {S A p : Addr} {H H' : Hp} (e : Ex H H') : ∀ {l : Lt}, LtAt S A H p l → LtAt S A H' p l
  | .say _ _ _, ⟨dx, h⟩ => ⟨dx, e _ _ h⟩
  | .agree _, ⟨dx, h⟩ => ⟨dx, e _ _ h⟩
theorem lt_dq {H : Hp} : ∀ l : Lt, DqAll H l.vs l.ds
  | .say n r f => .cons (.str _) (.cons (.int _) (.cons (.int _) (.cons (.int _) .nil)))
  | .agree n => .cons (.str _) (.cons (.int _) .nil)
theorem lt_alk (k : Nat) (l : Lt) : alk (k + 2) (.tuple l.ds) = true := by
  cases l <;> simp [alk, Lt.ds]
def sp_initS (C : Addr) : Sp := fun vs H Q _ => ∃ (dx p : Addr) (n r f : Int), vs = [.ref p, .int n, .int r, .int f] ∧ H p = some (.ins C dx []) ∧ ∀ H', (∀ a, a ≠ p → H' a = H a) → H' p = some (.ins C dx (fS n r f)) → Q .non H'
def sp_initA (C : Addr) : Sp := fun vs H Q _ => ∃ (dx p : Addr) (n : Int), vs = [.ref p, .int n] ∧ H p = some (.ins C dx []) ∧ ∀ H', (∀ a, a ≠ p → H' a = H a) → H' p = some (.ins C dx (fA n)) → Q .non H'
def sp_toldS (C : Addr) : Sp := fun vs H Q _ => ∃ (dx p : Addr) (n r f : Int), vs = [.ref p] ∧ H p = some (.ins C dx (fS n r f)) ∧ ∀ t H', H t = none → Ex H H' → H' t = some (.tup (Lt.say n r f).vs) → Q (.ref t) H'
def sp_toldA (C : Addr) : Sp := fun vs H Q _ => ∃ (dx p : Addr) (n : Int), vs = [.ref p] ∧ H p = some (.ins C dx (fA n)) ∧ ∀ t H', H t = none → Ex H H' → H' t = some (.tup (Lt.agree n).vs) → Q (.ref t) H'
/-- equal to a letter that tells the same, to nothing else -/
def sp_eqS (S A : Addr) : Sp := fun vs H Q _ => ∃ (dx p : Addr) (n r f : Int) (y : V), vs = [.ref p, y] ∧ H p = some (.ins S dx (fS n r f)) ∧
  ((∃ t, AnyT H y t ∧ ∀ H', Ex H H' → Q (.bl false) H') ∨ ∃ q l, y = .ref q ∧ LtAt S A H q l ∧ ∀ H', Ex H H' → Q (.bl (decide (Lt.say n r f = l))) H')
def sp_eqA (S A : Addr) : Sp := fun vs H Q _ => ∃ (dx p : Addr) (n : Int) (y : V), vs = [.ref p, y] ∧ H p = some (.ins A dx (fA n)) ∧
  ((∃ t, AnyT H y t ∧ ∀ H', Ex H H' → Q (.bl false) H') ∨ ∃ q l, y = .ref q ∧ LtAt S A H q l ∧ ∀ H', Ex H H' → Q (.bl (decide (Lt.agree n = l))) H')
section
variable {P : Program} {w : World} {K : PySem.W.Frag} {mg : Str → Option Value} {base : Heap}
theorem ok_initS (T : Tx K mg) : FnOk P w K mg base CX0 1 T.a_Say___init__ T.d_Say___init__ ["self", "number", "root", "far"] (sp_initS T.c_Say) := by
  refine T.F_Say___init__.ok sc_Say___init__ (fun vs H Q E h => ?_) (fun cdv A outer s H vs Q E hr h => ?_)
  · obtain ⟨_, _, _, _, _, rfl, _⟩ := h
    rfl
  · obtain ⟨dx, p, n, r, f, rfl, hp, q⟩ := h
    refine ⟨_, (pss_cons (ps_fld (pv 0) (pv 1) rfl)
  (pss_cons (ps_fld (pv 0) (pv 2) rfl)
  (pss_one (ps_fld (pv 0) (pv 3) rfl)))), ?_⟩
    refine ⟨_, rfl, _, rfl, p, T.c_Say, dx, [], rfl, hp, T.cl_Say, T.n_Say_number, (by show 0 < 1000; decide), ?_⟩
    refine ⟨_, rfl, _, rfl, p, T.c_Say, dx, _, rfl, upd_same, T.cl_Say, T.n_Say_root, (by show 1 < 1000; decide), ?_⟩
    refine ⟨_, rfl, _, rfl, p, T.c_Say, dx, _, rfl, upd_same, T.cl_Say, T.n_Say_far, Nat.lt_of_le_of_lt (putF_len _ _ _) (by show 2 < 1000; decide), ?_⟩
    exact q _ (fun a ha => by rw [upd_ne ha, upd_ne ha, upd_ne ha]) upd_same
theorem ok_initA (T : Tx K mg) : FnOk P w K mg base CX0 1 T.a_Agree___init__ T.d_Agree___init__ ["self", "number"] (sp_initA T.c_Agree) := by
  refine T.F_Agree___init__.ok sc_Agree___init__ (fun vs H Q E h => ?_) (fun cdv A outer s H vs Q E hr h => ?_)
  · obtain ⟨_, _, _, rfl, _⟩ := h
    rfl
  · obtain ⟨dx, p, n, rfl, hp, q⟩ := h
    refine ⟨_, (pss_one (ps_fld (pv 0) (pv 1) rfl)), ?_⟩
    refine ⟨_, rfl, _, rfl, p, T.c_Agree, dx, [], rfl, hp, T.cl_Agree, T.n_Agree_number, (by show 0 < 1000; decide), ?_⟩
    exact q _ (fun a ha => by rw [upd_ne ha]) upd_same
theorem ok_toldS (T : Tx K mg) : FnOk P w K mg base CX0 1 T.a_Say_told T.d_Say_told ["self"] (sp_toldS T.c_Say) := by
  refine T.F_Say_told.ok sc_Say_told (fun vs H Q E h => ?_) (fun cdv A outer s H vs Q E hr h => ?_)
  · obtain ⟨_, _, _, _, _, rfl, _⟩ := h
    rfl
  · obtain ⟨dx, p, n, r, f, rfl, hp, q⟩ := h
    refine ⟨_, (pss_one (ps_ret (pe_tup (pa_cons pe_str (pa_cons (fldK (K := K) rfl (pv 0) rfl) (pa_cons (fldK (K := K) rfl (pv 0) rfl) (pa_cons (fldK (K := K) rfl (pv 0) rfl) pa_nil))))))), ?_⟩
    exact s_retU (eu_tup (ea_cons ev_c (ea_cons (ev_fld (ev_var rfl) hp T.cl_Say T.n_Say_number (fS_n _ _ _)) (ea_cons (ev_fld (ev_var rfl) hp T.cl_Say T.n_Say_root (fS_r _ _ _)) (ea_cons (ev_fld (ev_var rfl) hp T.cl_Say T.n_Say_far (fS_f _ _ _)) ea_nil)))) (by show 4 ≤ 100000; decide)) fun t H1 ht e h => q t H1 ht e h
theorem ok_toldA (T : Tx K mg) : FnOk P w K mg base CX0 1 T.a_Agree_told T.d_Agree_told ["self"] (sp_toldA T.c_Agree) := by
  refine T.F_Agree_told.ok sc_Agree_told (fun vs H Q E h => ?_) (fun cdv A outer s H vs Q E hr h => ?_)
  · obtain ⟨_, _, _, rfl, _⟩ := h
    rfl
  · obtain ⟨dx, p, n, rfl, hp, q⟩ := h
    refine ⟨_, (pss_one (ps_ret (pe_tup (pa_cons pe_str (pa_cons (fldK (K := K) rfl (pv 0) rfl) pa_nil))))), ?_⟩
    exact s_retU (eu_tup (ea_cons ev_c (ea_cons (ev_fld (ev_var rfl) hp T.cl_Agree T.n_Agree_number (fA_n _)) ea_nil)) (by show 2 ≤ 100000; decide)) fun t H1 ht e h => q t H1 ht e h
theorem ev_isiC {σ : L2.St} {H : Hp} {te : TE} {C D p dx : Addr} {fs : List (Str × V)} {b : Bool} (ha : Ev te σ H (.ref p)) (h : H p = some (.ins D dx fs)) (q : IsiC K D) (cl : Cls K D) (kb : PySem.W.kitOne K (.ref D) (.ref C) = some b) : Ev (tCB (rIsi K) (tCons te (tCons (tC (.ref C)) tNil))) σ H (.bl b) := fun H1 e Q k =>
  ha H1 e _ fun H2 e2 => isi_insD q cl kb ((e.trans e2) _ _ h) (k H2 e2)
theorem ev_isiNo {σ : L2.St} {H : Hp} {te : TE} {C : Addr} {y : V} {t : String} (ha : Ev te σ H y) (h : AnyT H y t) (q : IsiC K C) : Ev (tCB (rIsi K) (tCons te (tCons (tC (.ref C)) tNil))) σ H (.bl false) := fun H1 e Q k =>
  ha H1 e _ fun H2 e2 => isi_no q (h.ext (e.trans e2)) (k H2 e2)
theorem dec_int (a b : Int) : decide (V.int a = V.int b) = decide (a = b) := by
  by_cases h : a = b
  · subst h; simp
  · rw [decide_eq_false h, decide_eq_false (fun z => h (V.int.inj z))]
theorem ok_eqS (T : Tx K mg) : FnOk P w K mg base CX0 1 T.a_Say___eq__ T.d_Say___eq__ ["self", "other"] (sp_eqS T.c_Say T.c_Agree) := by
  refine T.F_Say___eq__.ok sc_Say___eq__ (fun vs H Q E h => ?_) (fun cdv A outer s H vs Q E hr h => ?_)
  · obtain ⟨_, _, _, _, _, _, rfl, _⟩ := h
    rfl
  · obtain ⟨dx, p, n, r, f, y, rfl, hp, hy⟩ := h
    refine ⟨_, (pss_one (ps_ret (pe_and (pe_callB (isiK (K := K) rfl) (by rfl) T.z_isinstance (by decide +kernel) (pa_cons (pv 1) (pa_cons (pe_glob (v := .ref T.c_Say) rfl T.g_Say rfl) pa_nil))) (pe_and (pe_cmpR op_eq (fldK (K := K) rfl (pv 0) rfl) (fldK (K := K) rfl (pv 1) rfl) (nomark _)) (pe_and (pe_cmpR op_eq (fldK (K := K) rfl (pv 0) rfl) (fldK (K := K) rfl (pv 1) rfl) (nomark _)) (pe_one (pe_cmpR op_eq (fldK (K := K) rfl (pv 0) rfl) (fldK (K := K) rfl (pv 1) rfl) (nomark _)))))))), ?_⟩
    rcases hy with ⟨t, ht, q⟩ | ⟨u, l, rfl, hl, q⟩
    · exact s_ret (ev_is (ev_andV (a := false) (b := false) (ev_isiNo (ev_var rfl) ht T.q_Say) (fun z => nomatch z)) rfl) q
    · cases l with
      | agree m =>
        obtain ⟨dy, hu⟩ := hl
        rw [decide_eq_false (fun z => by cases z)] at q
        exact s_ret (ev_is (ev_andV (a := false) (b := false) (ev_isiC (ev_var rfl) hu T.q_Agree T.cl_Agree T.kt_Agree_Say) (fun z => nomatch z)) rfl) q
      | say n' r' f' =>
        obtain ⟨dy, hu⟩ := hl
        have F : ∀ {g : Str} {a b : Int}, PySem.W.findIn K (.ref T.c_Say) g = some none → (fS n r f).lookup g = some (.int a) → (fS n' r' f').lookup g = some (.int b) → Ev (tOp rEq (tFld K (tVar 0) g) (tFld K (tVar 1) g)) [some (.ref p), some (.ref u)] H (.bl (decide (a = b))) := fun hn h1 h2 =>
          ev_is (ev_op (ev_fld (ev_var rfl) hp T.cl_Say hn h1) (ev_fld (ev_var rfl) hu T.cl_Say hn h2) (rv_eq rfl)) (by rw [dec_int])
        have e : decide (Lt.say n r f = Lt.say n' r' f') = (true && (decide (n = n') && (decide (r = r') && decide (f = f')))) := by
          by_cases h1 : n = n' <;> by_cases h2 : r = r' <;> by_cases h3 : f = f' <;> simp [h1, h2, h3]
        rw [e] at q
        exact s_ret (ev_andV (ev_isiC (ev_var rfl) hu T.q_Say T.cl_Say kit_self) fun _ => ev_andV (F T.n_Say_number (fS_n _ _ _) (fS_n _ _ _)) fun _ => ev_andV (F T.n_Say_root (fS_r _ _ _) (fS_r _ _ _)) fun _ => F T.n_Say_far (fS_f _ _ _) (fS_f _ _ _)) q
theorem ok_eqA (T : Tx K mg) : FnOk P w K mg base CX0 1 T.a_Agree___eq__ T.d_Agree___eq__ ["self", "other"] (sp_eqA T.c_Say T.c_Agree) := by
  refine T.F_Agree___eq__.ok sc_Agree___eq__ (fun vs H Q E h => ?_) (fun cdv A outer s H vs Q E hr h => ?_)
  · obtain ⟨_, _, _, _, rfl, _⟩ := h
    rfl
  · obtain ⟨dx, p, n, y, rfl, hp, hy⟩ := h
    refine ⟨_, (pss_one (ps_ret (pe_and (pe_callB (isiK (K := K) rfl) (by rfl) T.z_isinstance (by decide +kernel) (pa_cons (pv 1) (pa_cons (pe_glob (v := .ref T.c_Agree) rfl T.g_Agree rfl) pa_nil))) (pe_one (pe_cmpR op_eq (fldK (K := K) rfl (pv 0) rfl) (fldK (K := K) rfl (pv 1) rfl) (nomark _)))))), ?_⟩
    rcases hy with ⟨t, ht, q⟩ | ⟨u, l, rfl, hl, q⟩
    · exact s_ret (ev_is (ev_andV (a := false) (b := false) (ev_isiNo (ev_var rfl) ht T.q_Agree) (fun z => nomatch z)) rfl) q
    · cases l with
      | say n' r' f' =>
        obtain ⟨dy, hu⟩ := hl
        rw [decide_eq_false (fun z => by cases z)] at q
        exact s_ret (ev_is (ev_andV (a := false) (b := false) (ev_isiC (ev_var rfl) hu T.q_Say T.cl_Say T.kt_Say_Agree) (fun z => nomatch z)) rfl) q
      | agree m =>
        obtain ⟨dy, hu⟩ := hl
        have e : decide (Lt.agree n = Lt.agree m) = (true && decide (n = m)) := by
          by_cases h1 : n = m <;> simp [h1]
        rw [e] at q
        exact s_ret (ev_andV (ev_isiC (ev_var rfl) hu T.q_Agree T.cl_Agree kit_self) fun _ => ev_is (ev_op (ev_fld (ev_var rfl) hp T.cl_Agree T.n_Agree_number (fA_n _)) (ev_fld (ev_var rfl) hu T.cl_Agree T.n_Agree_number (fA_n _)) (rv_eq rfl)) (by rw [dec_int])) q
/-! ### letters made -/
def sp_made (S A : Addr) : Sp := fun vs H Q _ => ∃ (t : Addr) (b : Bool) (l : Lt), vs = [.ref t, .bl b] ∧ H t = some (.tup l.vs) ∧ ∀ p H', H p = none → Ex H H' → LtAt S A H' p l → Q (.ref p) H'
/-- a new letter -/
def EvM (S A : Addr) (te : TE) (σ : L2.St) (H : Hp) (l : Lt) : Prop := ∀ H1, Ex H H1 → ∀ Q : VK, (∀ p H2, H1 p = none → Ex H1 H2 → LtAt S A H2 p l → Q (.ref p) H2) → te σ H1 Q
theorem em_if {S A : Addr} {ta tb : TE} {σ : L2.St} {H : Hp} {t : TT} {b : Bool} {l : Lt} (h : EvT t σ H b) (h1 : EvM S A ta σ H l) (h2 : EvM S A tb σ H l) : EvM S A (tIf t ta tb) σ H l := fun H1 e Q q => h H1 e _ fun H2 e2 => by
  cases b with
  | true => exact iteT (h1 H2 (e.trans e2) Q fun p H3 hp e3 hx => q p H3 (fresh_back e2 hp) (e2.trans e3) hx)
  | false => exact iteF (h2 H2 (e.trans e2) Q fun p H3 hp e3 hx => q p H3 (fresh_back e2 hp) (e2.trans e3) hx)
theorem made_ex {H H' : Hp} {x dx C : Addr} (hx : H x = none) (hdx : H dx = none) (off : ∀ a, a ≠ x → H' a = (upd (upd H dx (.own x)) x (.ins C dx [])) a) : Ex H H' := fun a o ha => by
  have h1 := ne_of_none ha hx
  have h2 := ne_of_none ha hdx
  rw [off a h1, upd_ne h1, upd_ne h2]
  exact ha
section
variable {S A : Addr} {σ : L2.St} {H : Hp} {n r f : Int}
theorem em_say {ta : TA} (h : EvA ta σ H [.int n, .int r, .int f]) : EvM S A (tMake S (sp_initS S) [] E0 ta) σ H (.say n r f) := fun H1 e Q q =>
  h H1 e _ fun H2 e2 x dx hx hdx ne => ⟨dx, x, n, r, f, rfl, upd_same, fun H' off hp => ⟨rfl, q x H' (fresh_back e2 hx) (e2.trans (made_ex hx hdx off)) ⟨dx, hp⟩⟩⟩
theorem em_agree {ta : TA} (h : EvA ta σ H [.int n]) : EvM S A (tMake A (sp_initA A) [] E0 ta) σ H (.agree n) := fun H1 e Q q =>
  h H1 e _ fun H2 e2 x dx hx hdx ne => ⟨dx, x, n, rfl, upd_same, fun H' off hp => ⟨rfl, q x H' (fresh_back e2 hx) (e2.trans (made_ex hx hdx off)) ⟨dx, hp⟩⟩⟩
end
end
end K15

set_option maxHeartbeats 2000000
namespace K15
open PySem PySem.Spec PyProof.Rows L2 Evl MyG
/-! ### what is known (B) beside the state -/
structure Wd (s c : Addr) (B H : Hp) : Prop where
  ex : Ex B H
  ns : B s = none
  nc : B c = none
  st : Sta s c H
theorem Sta.ext {s c : Addr} {H H' : Hp} (h : Sta s c H) (e : Ex H H') : Sta s c H' :=
  ⟨h.ne, let ⟨cells, i, j, h1, h2, r⟩ := h.ex; ⟨cells, i, j, e _ _ h1, e _ _ h2, r⟩⟩
theorem Sta.s_some {s c : Addr} {H : Hp} (h : Sta s c H) : ∃ o, H s = some o := let ⟨_, _, _, h1, _⟩ := h.ex; ⟨_, h1⟩
theorem Sta.c_some {s c : Addr} {H : Hp} (h : Sta s c H) : ∃ o, H c = some o := let ⟨_, _, _, _, h2, _⟩ := h.ex; ⟨_, h2⟩
theorem Sta.ne_s {s c p : Addr} {H : Hp} (h : Sta s c H) (hp : H p = none) : p ≠ s := fun e => by
  obtain ⟨o, z⟩ := h.s_some
  rw [e, z] at hp
  cases hp
theorem Sta.ne_c {s c p : Addr} {H : Hp} (h : Sta s c H) (hp : H p = none) : p ≠ c := fun e => by
  obtain ⟨o, z⟩ := h.c_some
  rw [e, z] at hp
  cases hp
theorem Sta.upd {s c p : Addr} {H : Hp} {o : HO} (h : Sta s c H) (hs : p ≠ s) (hc : p ≠ c) : Sta s c (upd H p o) :=
  ⟨h.ne, let ⟨cells, i, j, h1, h2, r⟩ := h.ex; ⟨cells, i, j, by rw [upd_ne hs.symm]; exact h1, by rw [upd_ne hc.symm]; exact h2, r⟩⟩
section
variable {s c p : Addr} {B H H' : Hp} {o : HO}
theorem Wd.off (h : Wd s c B H) (st : Sta s c H') (f : Off s c H H') : Wd s c B H' := ⟨fun a u e => by
  rw [f a (fun z => by rw [z, h.ns] at e; cases e) (fun z => by rw [z, h.nc] at e; cases e)]
  exact h.ex a u e, h.ns, h.nc, st⟩
theorem Wd.ext (h : Wd s c B H) (e : Ex H H') : Wd s c B H' := ⟨h.ex.trans e, h.ns, h.nc, h.st.ext e⟩
theorem Wd.mut (h : Wd s c B H) (hp : B p = none) (hs : p ≠ s) (hc : p ≠ c) : Wd s c B (upd H p o) := ⟨h.ex.mut hp, h.ns, h.nc, h.st.upd hs hc⟩
theorem Wd.know (h : Wd s c B H) (hp : H p = some o) (hs : p ≠ s) (hc : p ≠ c) : Wd s c (upd B p o) H := ⟨fun a u e => by
  by_cases z : a = p
  · rw [z, upd_same] at e
    rw [z, ← e]
    exact hp
  · rw [upd_ne z] at e
    exact h.ex a u e, by rw [upd_ne hs.symm]; exact h.ns, by rw [upd_ne hc.symm]; exact h.nc, h.st⟩
theorem Wd.none_of (h : Wd s c B H) (hp : H p = none) : B p = none := fresh_back h.ex hp
theorem ex_know (hp : B p = none) : Ex B (upd B p o) := Ex.new hp
end
/-! ### letters drawn -/
def sp_letter : Sp := fun vs H Q _ => ∃ (s c : Addr) (B : Hp), vs = [.ref s] ∧ Wd s c B H ∧ ∀ l t B' H', Ex B B' → B' t = some (.tup (Lt.vs l)) → Wd s c B' H' → Q (.ref t) H'
section
variable {P : Program} {w : World} {K : PySem.W.Frag} {mg : Str → Option Value} {base : Heap}
theorem ok_letter (T : Tx K mg) : FnOk P w K mg base CX0 2 T.a_l_letter T.d_l_letter ["_law_state_here"] sp_letter := by
  have G_l_draw := ok_draw (P := P) (w := w) (base := base) T
  refine T.F_l_letter.ok sc_l_letter (fun vs H Q E h => ?_) (fun cdv A outer s H vs Q E hr h => ?_)
  · obtain ⟨_, _, _, rfl, _⟩ := h
    rfl
  · obtain ⟨s, c, B, rfl, W, q⟩ := h
    refine ⟨_, (pss_cons (ps_set (i := 1) sc_l_letter.nd rfl (Or.inr rfl) (pe_lst (pa_cons pe_int (pa_cons pe_int (pa_cons pe_int (pa_cons pe_int (pa_cons pe_int (pa_cons (pe_op op_add pe_int (pe_call G_l_draw (hr.mono (by decide)) (by rfl) T.g_l_draw T.F_l_draw.kp T.b_l_draw .nil pass0 (pa_cons (pv 0) (pa_cons pe_int pa_nil)))) (pa_cons (pe_op op_pow pe_int pe_int) pa_nil)))))))))
  (pss_cons (ps_setLc (i := 2) (own := [("_law_k", 3)]) (g := (gName 3)) (tt := tYes) rfl sc_l_letter.nd rfl rfl (sw_true rfl rfl rfl (by decide +kernel)) (pi_range1 rfl T.z_range (pa_cons pe_int pa_nil)) (blkOk_by (N := n_l_letter) (sc := defScope s_l_letter) (by decide +kernel)) (fun _ _ _ _ _ => (pg_name (i := 3) sc_l_letter.nd rfl (Or.inl rfl))) (fun _ _ _ _ _ => pts_nil) (fun _ _ _ _ _ => (pe_ix (ix_listK (K := K) rfl) (pv 1) (pe_call G_l_draw (hr.mono (by decide)) (by rfl) T.g_l_draw T.F_l_draw.kp T.b_l_draw .nil pass0 (pa_cons (pv 0) (pa_cons pe_int pa_nil))) (fun _ _ => rfl))))
  (pss_one (ps_ret (pe_ifExp (pt_cmpR op_eq (pe_call G_l_draw (hr.mono (by decide)) (by rfl) T.g_l_draw T.F_l_draw.kp T.b_l_draw .nil pass0 (pa_cons (pv 0) (pa_cons pe_int pa_nil))) pe_int (nomark _)) (pe_tup (pa_cons pe_str (pa_cons (pe_ix (ix_listK (K := K) rfl) (pv 2) pe_int (fun _ _ => rfl)) pa_nil))) (pe_tup (pa_cons pe_str (pa_cons (pe_ix (ix_listK (K := K) rfl) (pv 2) pe_int (fun _ _ => rfl)) (pa_cons (pe_ix (ix_listK (K := K) rfl) (pv 2) pe_int (fun _ _ => rfl)) (pa_cons (pe_ix (ix_listK (K := K) rfl) (pv 2) pe_int (fun _ _ => rfl)) pa_nil)))))))))), ?_⟩
    refine ⟨_, rfl, s, c, 400, rfl, W.st, by decide, by decide, fun r H1 r0 r1 st1 off1 => ⟨_, _, rfl, rfl, 10, 30, rfl, rfl, ⟨by decide, by decide, by decide⟩, by show 7 ≤ sizeLine; decide, fun a ha => ?_⟩⟩
    have W1 := W.off st1 off1
    have W2 := (W1.ext (Ex.new (o := .lst (([1, 2, 3, 0, 999, 1 + r, 10 ^ 30] : List Int).map V.int)) ha)).know upd_same (W1.st.ne_s ha) (W1.st.ne_c ha)
    have hB : B a = none := W1.none_of ha
    have eB2 : Ex B (upd B a (.lst (([1, 2, 3, 0, 999, 1 + r, 10 ^ 30] : List Int).map V.int))) := ex_know hB
    have ha2 : (upd B a (.lst (([1, 2, 3, 0, 999, 1 + r, 10 ^ 30] : List Int).map V.int))) a = some (.lst (([1, 2, 3, 0, 999, 1 + r, 10 ^ 30] : List Int).map V.int)) := upd_same
    generalize upd B a (.lst (([1, 2, 3, 0, 999, 1 + r, 10 ^ 30] : List Int).map V.int)) = B2 at W2 eB2 ha2
    refine ⟨3, rfl, by decide, by decide, fun D hD => lc_range (lo := 0) (n := 3) (fun i H' => ∃ xs : List Int, Wd s c B2 H' ∧ H' D = some (.lst (xs.map V.int)) ∧ xs.length = i) ⟨[], W2.ext (Ex.new hD), upd_same, rfl⟩ ?_ ?_⟩
    · rintro i H3 hi ⟨xs, W3, hD3, hl⟩
      refine ⟨rfl, un_yes (iteT ⟨_, rfl, _, rfl, s, c, 7, rfl, W3.st, by decide, by decide, fun z H4 z0 z1 st4 off4 => ?_⟩)⟩
      have W4 := W3.off st4 off4
      obtain ⟨x, hx, hxa, hxm⟩ := ints_at (ns := [1, 2, 3, 0, 999, 1 + r, 10 ^ 30]) z0 (by show z < 7; exact z1)
      have hD4 := (off4 D (W2.st.ne_s hD) (W2.st.ne_c hD)).trans hD3
      refine ⟨a, _, z, _, rfl, rfl, SqL.of (W4.ex _ _ ha2), hxa, _, hD4, by rw [List.length_map, hl]; exact Nat.lt_of_lt_of_le hi (by decide), xs ++ [x], W4.mut (W2.none_of hD) (W2.st.ne_s hD) (W2.st.ne_c hD), ?_, by rw [List.length_append, hl]; rfl⟩
      rw [upd_same, List.map_append]
      rfl
    · rintro H5 ⟨xs, W5, hD5, hl⟩
      obtain ⟨n, k, f, rfl⟩ : ∃ n k f, xs = [n, k, f] := by
        match xs, hl with
        | [n, k, f], _ => exact ⟨n, k, f, rfl⟩
      have W6 := W5.know hD5 (W2.st.ne_s hD) (W2.st.ne_c hD)
      have e6 : Ex B2 (upd B2 D (.lst ([n, k, f].map V.int))) := ex_know (W2.none_of hD)
      have hD6 : (upd B2 D (.lst ([n, k, f].map V.int))) D = some (.lst ([n, k, f].map V.int)) := upd_same
      generalize upd B2 D (.lst ([n, k, f].map V.int)) = B6 at W6 e6 hD6
      refine ⟨_, rfl, s, c, 2, rfl, W6.st, by decide, by decide, fun z H7 z0 z1 st7 off7 => ⟨rfl, _, rfl, ite2 (fun _ => ?_) (fun _ => ?_)⟩⟩
      all_goals have W7 := W6.off st7 off7
      all_goals have hD7 := W7.ex _ _ hD6
      · refine go_U (eu_tup (ea_cons ev_c (ea_cons (ev_op (ev_var rfl) ev_c (rv_ixL (SqL.of hD7) (atI_nat (j := 0) rfl))) ea_nil)) (by show 2 ≤ 100000; decide)) fun t H8 ht e8 h8 => ?_
        have W8 := W7.ext e8
        exact q (.agree n) t _ H8 ((eB2.trans e6).trans (ex_know (W7.none_of ht))) upd_same (W8.know h8 (W7.st.ne_s ht) (W7.st.ne_c ht))
      · refine go_U (eu_tup (ea_cons ev_c (ea_cons (ev_op (ev_var rfl) ev_c (rv_ixL (SqL.of hD7) (atI_nat (j := 0) rfl))) (ea_cons (ev_op (ev_var rfl) ev_c (rv_ixL (SqL.of hD7) (atI_nat (j := 1) rfl))) (ea_cons (ev_op (ev_var rfl) ev_c (rv_ixL (SqL.of hD7) (atI_nat (j := 2) rfl))) ea_nil)))) (by show 4 ≤ 100000; decide)) fun t H8 ht e8 h8 => ?_
        have W8 := W7.ext e8
        exact q (.say n k f) t _ H8 ((eB2.trans e6).trans (ex_know (W7.none_of ht))) upd_same (W8.know h8 (W7.st.ne_s ht) (W7.st.ne_c ht))
end
end K15

set_option maxHeartbeats 2000000
namespace K15
open PySem PySem.Spec PyProof.Rows L2 Evl MyG
section
variable {S A : Addr} {σ : L2.St} {H : Hp} {n r f : Int}
theorem em_sayK {ta : TA} (h : EvA ta σ H [.int f, .int n, .int r]) : EvM S A (tMakeK S 0 3 (sp_initS S) (fun us ws => us ++ perm_1_2_0 ws) E0 tNil ta) σ H (.say n r f) := fun H1 e Q q =>
  h H1 e _ fun H2 e2 => ⟨rfl, rfl, fun x dx hx hdx ne => ⟨dx, x, n, r, f, rfl, upd_same, fun H' off hp => ⟨rfl, q x H' (fresh_back e2 hx) (e2.trans (made_ex hx hdx off)) ⟨dx, hp⟩⟩⟩⟩
theorem em_agreeK {ta : TA} (h : EvA ta σ H [.int n]) : EvM S A (tMakeK A 0 1 (sp_initA A) (fun us ws => us ++ perm_0 ws) E0 tNil ta) σ H (.agree n) := fun H1 e Q q =>
  h H1 e _ fun H2 e2 => ⟨rfl, rfl, fun x dx hx hdx ne => ⟨dx, x, n, rfl, upd_same, fun H' off hp => ⟨rfl, q x H' (fresh_back e2 hx) (e2.trans (made_ex hx hdx off)) ⟨dx, hp⟩⟩⟩⟩
end
section
variable {P : Program} {w : World} {K : PySem.W.Frag} {mg : Str → Option Value} {base : Heap}
theorem ok_made (T : Tx K mg) : FnOk P w K mg base CX0 3 T.a_l_made T.d_l_made ["_law_told", "_law_named"] (sp_made T.c_Say T.c_Agree) := by
  have G_Say___init__ := ok_initS (P := P) (w := w) (base := base) T
  have G_Agree___init__ := ok_initA (P := P) (w := w) (base := base) T
  refine T.F_l_made.ok sc_l_made (fun vs H Q E h => ?_) (fun cdv A outer s H vs Q E hr h => ?_)
  · obtain ⟨_, _, _, rfl, _⟩ := h
    rfl
  · obtain ⟨t, b, l, rfl, ht, q⟩ := h
    refine ⟨_, (pss_cons (ps_if (pt_cmpR op_eq (pe_ix (ix_tupK (K := K) rfl) (pv 0) pe_int (fun _ _ => rfl)) pe_str (nomark _)) (pss_one (ps_ret (pe_ifExp (pt_val (pv 1)) (pe_makeK0 T.m_Agree G_Agree___init__ (hr.mono (by decide)) (by rfl) T.g_Agree T.kb_Agree___init___number pass0 (pk_cons (pe_ix (ix_tupK (K := K) rfl) (pv 0) pe_int (fun _ _ => rfl)) pk_nil)) (pe_make T.m_Agree G_Agree___init__ (hr.mono (by decide)) (by rfl) T.g_Agree T.b_Agree___init__ .nil pass0 (pa_cons (pe_ix (ix_tupK (K := K) rfl) (pv 0) pe_int (fun _ _ => rfl)) pa_nil))))) pss_nil)
  (pss_one (ps_ret (pe_ifExp (pt_val (pv 1)) (pe_makeK0 T.m_Say G_Say___init__ (hr.mono (by decide)) (by rfl) T.g_Say T.kb_Say___init___far_number_root pass0 (pk_cons (pe_ix (ix_tupK (K := K) rfl) (pv 0) pe_int (fun _ _ => rfl)) (pk_cons (pe_ix (ix_tupK (K := K) rfl) (pv 0) pe_int (fun _ _ => rfl)) (pk_cons (pe_ix (ix_tupK (K := K) rfl) (pv 0) pe_int (fun _ _ => rfl)) pk_nil)))) (pe_make T.m_Say G_Say___init__ (hr.mono (by decide)) (by rfl) T.g_Say T.b_Say___init__ .nil pass0 (pa_cons (pe_ix (ix_tupK (K := K) rfl) (pv 0) pe_int (fun _ _ => rfl)) (pa_cons (pe_ix (ix_tupK (K := K) rfl) (pv 0) pe_int (fun _ _ => rfl)) (pa_cons (pe_ix (ix_tupK (K := K) rfl) (pv 0) pe_int (fun _ _ => rfl)) pa_nil)))))))), ?_⟩
    have I : ∀ (j : Nat) {v : V} {H1 : Hp}, Ex H H1 → l.vs[j]? = some v → Ev (tOp (rIxT K) (tVar 0) (tC (V.int j))) [some (.ref t), some (.bl b)] H1 v := fun j {v H1} e hj => ev_op (ev_var rfl) ev_c (rv_ixT (SqT.of (e _ _ ht)) (atI_nat hj))
    have B : ∀ {H1 : Hp}, EvT (tB (tVar 1)) [some (.ref t), some (.bl b)] H1 b := et_B (ev_var rfl)
    cases l with
    | agree n =>
      refine q_if (b := true) (et_is (et_test (ev_op (I 0 (Ex.refl _) rfl) ev_c (rv_eq rfl))) (by decide +kernel)) (fun _ H1 e1 => ?_) (fun z => nomatch z)
      exact (em_if B (em_agreeK (ea_cons (I 1 e1 rfl) ea_nil)) (em_agree (ea_cons (I 1 e1 rfl) ea_nil))) H1 (Ex.refl _) _ fun p H2 hp e2 hl => q p H2 (fresh_back e1 hp) (e1.trans e2) hl
    | say n r f =>
      refine q_when (b := false) (et_is (et_test (ev_op (I 0 (Ex.refl _) rfl) ev_c (rv_eq rfl))) (by decide +kernel)) (fun z => nomatch z) (fun _ H1 e1 => ?_)
      exact (em_if B (em_sayK (ea_cons (I 3 e1 rfl) (ea_cons (I 1 e1 rfl) (ea_cons (I 2 e1 rfl) ea_nil)))) (em_say (ea_cons (I 1 e1 rfl) (ea_cons (I 2 e1 rfl) (ea_cons (I 3 e1 rfl) ea_nil))))) H1 (Ex.refl _) _ fun p H2 hp e2 hl => q p H2 (fresh_back e1 hp) (e1.trans e2) hl
end
end K15

set_option maxHeartbeats 2000000
namespace K15
open PySem PySem.Spec PyProof.Rows L2 Evl MyG
section
variable {P : Program} {w : World} {K : PySem.W.Frag} {mg : Str → Option Value} {base : Heap}
/-! ### another one, or bent -/
def sp_bent : Sp := fun vs H Q _ => ∃ (s c t : Addr) (B : Hp) (l : Lt), vs = [.ref s, .ref t] ∧ Wd s c B H ∧ B t = some (.tup l.vs) ∧ ∀ l' t' B' H', Ex B B' → B' t' = some (.tup (Lt.vs l')) → Wd s c B' H' → Q (.ref t') H'
theorem ok_bent (T : Tx K mg) : FnOk P w K mg base CX0 3 T.a_l_bent T.d_l_bent ["_law_state_here", "_law_told"] sp_bent := by
  have G_l_draw := ok_draw (P := P) (w := w) (base := base) T
  have G_l_letter := ok_letter (P := P) (w := w) (base := base) T
  refine T.F_l_bent.ok sc_l_bent (fun vs H Q E h => ?_) (fun cdv A outer s H vs Q E hr h => ?_)
  · obtain ⟨_, _, _, _, _, rfl, _⟩ := h
    rfl
  · obtain ⟨s, c, t, B, l, rfl, W, ht, q⟩ := h
    refine ⟨_, (pss_cons (ps_par (i := 2) (j := 3) rfl sc_l_bent.nd rfl rfl (by decide) rfl rfl (pa_cons (pe_call G_l_draw (hr.mono (by decide)) (by rfl) T.g_l_draw T.F_l_draw.kp T.b_l_draw .nil pass0 (pa_cons (pv 0) (pa_cons pe_int pa_nil))) (pa_cons (pe_op op_add pe_int (pe_call G_l_draw (hr.mono (by decide)) (by rfl) T.g_l_draw T.F_l_draw.kp T.b_l_draw .nil pass0 (pa_cons (pv 0) (pa_cons (pe_op op_sub (pe_callB (lenK (K := K) rfl) (by rfl) T.z_len (by decide +kernel) (pa_cons (pv 1) pa_nil)) pe_int) pa_nil)))) pa_nil)) (by rfl))
  (pss_cons (ps_if (pt_cmpR op_eq (pv 2) pe_int (nomark _)) (pss_one (ps_ret (pe_ifExp (pt_cmpR op_eq (pv 3) pe_int (nomark _)) (pe_op (catTK (K := K) rfl) (pe_slice (sl_tupK (K := K) rfl) (pv 1) po_none (po_some pe_int)) (backTK (K := K) rfl (pv 1))) (pe_op (catTK (K := K) rfl) (pe_op (catTK (K := K) rfl) (pe_slice (sl_tupK (K := K) rfl) (pv 1) po_none (po_some pe_int)) (pe_slice (sl_tupK (K := K) rfl) (pv 1) (po_some pe_int) po_none)) (pe_slice (sl_tupK (K := K) rfl) (pv 1) (po_some pe_int) (po_some pe_int)))))) pss_nil)
  (pss_cons (ps_if (pt_cmpR op_eq (pv 2) pe_int (nomark _)) (pss_one (ps_ret (pv 1))) pss_nil)
  (pss_cons (ps_if (pt_cmpR op_eq (pv 2) pe_int (nomark _)) (pss_one (ps_ret (pe_call G_l_letter (hr.mono (by decide)) (by rfl) T.g_l_letter T.F_l_letter.kp T.b_l_letter .nil pass0 (pa_cons (pv 0) pa_nil)))) pss_nil)
  (pss_cons (ps_if (pt_cmpR op_eq (pv 2) pe_int (nomark _)) (pss_one (ps_ret (pe_ifExp (pt_cmpR op_eq (pe_ix (ix_tupK (K := K) rfl) (pv 1) pe_int (fun _ _ => rfl)) pe_str (nomark _)) (pe_tup (pa_cons pe_str (pa_cons (pe_ix (ix_tupK (K := K) rfl) (pv 1) pe_int (fun _ _ => rfl)) pa_nil))) (pe_tup (pa_cons pe_str (pa_cons (pe_ix (ix_tupK (K := K) rfl) (pv 1) pe_int (fun _ _ => rfl)) (pa_cons (pe_ix (ix_tupK (K := K) rfl) (pv 1) pe_int (fun _ _ => rfl)) (pa_cons (pe_ix (ix_tupK (K := K) rfl) (pv 1) pe_int (fun _ _ => rfl)) pa_nil)))))))) pss_nil)
  (pss_one (ps_ret (pe_op (catTK (K := K) rfl) (pe_op (catTK (K := K) rfl) (pe_slice (sl_tupK (K := K) rfl) (pv 1) po_none (po_some (pv 3))) (pe_tup (pa_cons (pe_op op_add (pe_ix (ix_tupK (K := K) rfl) (pv 1) (pv 3) (fun _ _ => rfl)) pe_int) pa_nil))) (pe_slice (sl_tupK (K := K) rfl) (pv 1) (po_some (pe_op op_add (pv 3) pe_int)) po_none))))))))), ?_⟩
    have hlen : l.vs.length = 2 ∨ l.vs.length = 4 := by cases l; exact .inr rfl; exact .inl rfl
    refine ⟨_, rfl, s, c, 5, rfl, W.st, by decide, by decide, fun way H1 w0 w1 st1 off1 => ?_⟩
    have W1 := W.off st1 off1
    refine ⟨_, rfl, _, rfl, t, _, rfl, .inr (SqT.of (W1.ex _ _ ht)), _, _, rfl, rfl, s, c, _, rfl, W1.st, by omega, by omega, fun a H2 a0 a1 st2 off2 => ⟨_, _, rfl, rfl, _, _, rfl, ?_⟩⟩
    have W2 := W1.off st2 off2
    have ht2 := W2.ex _ _ ht
    dsimp only
    have fin : ∀ (l' : Lt) {te : TE} {σ : L2.St} {H3 : Hp}, Ex H2 H3 → EvU te σ H3 l'.vs → te σ H3 Q := fun l' {te σ H3} e3 h => go_U h fun t' H4 ht' e4 h4 => by
      have W4 := W2.ext (e3.trans e4)
      have W3 := W2.ext e3
      exact q l' t' _ H4 (ex_know (W3.none_of ht')) upd_same (W4.know h4 (W3.st.ne_s ht') (W3.st.ne_c ht'))
    have tw : ∀ {H3 : Hp} {at_ : Int} (k : Int), EvT (tTest (tOp rEq (tVar 2) (tC (V.int k)))) [some (.ref s), some (.ref t), some (.int way), some (.int at_)] H3 (decide (way = k)) := fun k => et_test (ev_is (ev_op (ev_var rfl) ev_c (rv_eq rfl)) (by rw [dec_int]))
    have ta : ∀ {H3 : Hp} {at_ : Int} (k : Int), EvT (tTest (tOp rEq (tVar 3) (tC (V.int k)))) [some (.ref s), some (.ref t), some (.int way), some (.int at_)] H3 (decide (at_ = k)) := fun k => et_test (ev_is (ev_op (ev_var rfl) ev_c (rv_eq rfl)) (by rw [dec_int]))
    show tSeq _ _ _ [some (.ref s), some (.ref t), some (.int way), some (.int (1 + a))] H2
    refine q_when (tw 4) (fun _ H3 e3 => ?_) fun _ H3 e3 => ?_
    · -- turned about, or on
      have ht3 := e3 _ _ ht2
      cases l with
      | agree n =>
        obtain rfl : a = 0 := by
          have : a < 2 - 1 := a1
          omega
        exact fin (.agree n) e3 (eu_if (b := true) (ta 1) (fun _ => eu_is (eu_cat (eu_sl (lo := none) (hi := some 1) (ev_var rfl) eo_none (eo_some ev_c) ht3 (by show ¬ (HT.sIx 2 0 none = 0 ∧ HT.sIx 2 2 (some 1) = 2); decide)) (eu_back (ev_var rfl) ht3) (by show [V.str "agree"] ≠ []; simp) (by show 1 + 1 ≤ 1000; decide)) rfl) (fun z => nomatch z))
      | say n k f =>
        have s1 : ∀ {σ : L2.St}, σ[1]? = some (some (.ref t)) → EvU (tSl (rSlT K) (tVar 1) tNoPart (tPart (tC (V.int 1)))) σ H3 [V.str "say"] := fun hσ => eu_sl (lo := none) (hi := some 1) (ev_var hσ) eo_none (eo_some ev_c) ht3 (by show ¬ (HT.sIx 4 0 none = 0 ∧ HT.sIx 4 4 (some 1) = 4); decide)
        by_cases ha : a = 0
        · subst ha
          exact fin (.say f k n) e3 (eu_if (b := true) (ta 1) (fun _ => eu_is (eu_cat (s1 rfl) (eu_back (ev_var rfl) ht3) (by simp) (by show 1 + 3 ≤ 1000; decide)) rfl) (fun z => nomatch z))
        · refine fin (.say k f n) e3 (eu_if (b := false) (et_is (ta 1) (decide_eq_false (by omega))) (fun z => nomatch z) (fun _ => eu_is (eu_cat (eu_cat (s1 rfl) (eu_sl (lo := some 2) (hi := none) (ev_var rfl) (eo_some ev_c) eo_none ht3 (by show ¬ (HT.sIx 4 0 (some 2) = 0 ∧ HT.sIx 4 4 none = 4); decide)) (by simp) (by show 1 + 2 ≤ 1000; decide)) (eu_sl (lo := some 1) (hi := some 2) (ev_var rfl) (eo_some ev_c) (eo_some ev_c) ht3 (by show ¬ (HT.sIx 4 0 (some 1) = 0 ∧ HT.sIx 4 4 (some 2) = 4); decide)) (by simp) (by show 3 + 1 ≤ 1000; decide)) rfl))
    · refine q_when (tw 0) (fun _ H4 e4 => ?_) fun _ H4 e4 => ?_
      · -- the same
        refine un_ret ⟨_, rfl, ?_⟩
        exact q l t B H4 (Ex.refl _) ht (W2.ext (e3.trans e4))
      refine q_when (tw 1) (fun _ H5 e5 => ?_) fun _ H5 e5 => ?_
      · -- another one
        refine un_ret ?_
        exact ⟨_, rfl, s, c, B, rfl, W2.ext ((e3.trans e4).trans e5), fun l' t' B' H' eB ht' W' => q l' t' B' H' eB ht' W'⟩
      refine q_when (tw 2) (fun _ H6 e6 => ?_) fun _ H6 e6 => ?_
      · -- of the other sort
        have e26 := ((e3.trans e4).trans e5).trans e6
        have ht6 := e26 _ _ ht2
        have I : ∀ {σ : L2.St} (j : Nat) {v : V}, σ[1]? = some (some (.ref t)) → l.vs[j]? = some v → Ev (tOp (rIxT K) (tVar 1) (tC (V.int j))) σ H6 v := fun {σ} j {v} hσ hj => ev_op (ev_var hσ) ev_c (rv_ixT (SqT.of ht6) (atI_nat hj))
        cases l with
        | say n k f =>
          exact fin (.agree n) e26 (eu_if (b := true) (et_is (et_test (ev_op (I 0 rfl rfl) ev_c (rv_eq rfl))) (by decide +kernel)) (fun _ => eu_tup (ea_cons ev_c (ea_cons (I 1 rfl rfl) ea_nil)) (by show 2 ≤ 100000; decide)) (fun z => nomatch z))
        | agree n =>
          exact fin (.say n n n) e26 (eu_if (b := false) (et_is (et_test (ev_op (I 0 rfl rfl) ev_c (rv_eq rfl))) (by decide +kernel)) (fun z => nomatch z) (fun _ => eu_tup (ea_cons ev_c (ea_cons (I 1 rfl rfl) (ea_cons (I 1 rfl rfl) (ea_cons (I 1 rfl rfl) ea_nil)))) (by show 4 ≤ 100000; decide)))
      · -- a number one more
        have e26 := ((e3.trans e4).trans e5).trans e6
        have ht6 := e26 _ _ ht2
        have key : ∀ (j : Nat) (l' : Lt) (x : Int), 1 ≤ j → (j < l.vs.length) → a = (j : Int) - 1 → l.vs[j]? = some (.int x) → l.vs.take j ++ [V.int (x + 1)] ++ l.vs.drop (j + 1) = l'.vs → tRet
              (tOp (rCatT K)
                (tOp (rCatT K) (tSl (rSlT K) (tVar 1) tNoPart (tPart (tVar 3)))
                  (tTup
                    (tCons (tOp (rI0 fun i j => V.int (i + j)) (tOp (rIxT K) (tVar 1) (tVar 3)) (tC (V.int 1))) tNil)))
                (tSl (rSlT K) (tVar 1) (tPart (tOp (rI0 fun i j => V.int (i + j)) (tVar 3) (tC (V.int 1)))) tNoPart))
              { nx := fun x H' => Q V.non H', rt := Q } [some (.ref s), some (.ref t), some (.int way), some (.int (1 + a))] H6 := by
          intro j l' x j1 jl aj hx hl'
          have ea : 1 + a = (j : Int) := by omega
          rw [ea]
          refine fin l' e26 (eu_is (eu_cat (eu_cat (eu_sl (lo := none) (hi := some ((j : Nat) : Int)) (ev_var rfl) eo_none (eo_some (ev_var rfl)) ht6 ?_) (eu_tup (ea_cons (ev_op (ev_op (ev_var rfl) (ev_var rfl) (rv_ixT (SqT.of ht6) (atI_nat hx))) ev_c rv_I0) ea_nil) (by show 1 ≤ 100000; decide)) ?_ ?_) (eu_sl (lo := some (((j + 1 : Nat)) : Int)) (hi := none) (ev_var rfl) (eo_some (ev_op (ev_var rfl) ev_c rv_I0)) eo_none ht6 ?_) ?_ ?_) ?_)
          · rw [show HT.sIx l.vs.length l.vs.length (some ((j : Nat) : Int)) = j by rw [HT.sIx_nat]; omega]
            intro z
            omega
          · rw [cut_lo _ (by omega)]
            intro z
            have := congrArg List.length z
            rw [List.length_take, List.length_nil] at this
            omega
          · have := cutV_length l.vs none (some ((j : Nat) : Int))
            show (cutV l.vs none (some ((j : Nat) : Int))).length + 1 ≤ 1000
            omega
          · rw [show HT.sIx l.vs.length 0 (some (((j + 1 : Nat)) : Int)) = j + 1 by rw [HT.sIx_nat]; omega]
            intro z
            omega
          · simp
          · have h1 := cutV_length l.vs none (some ((j : Nat) : Int))
            have h2 := cutV_length l.vs (some (((j + 1 : Nat)) : Int)) none
            rw [List.length_append]
            show (cutV l.vs none (some ((j : Nat) : Int))).length + 1 + (cutV l.vs (some (((j + 1 : Nat)) : Int)) none).length ≤ 1000
            omega
          · rw [cut_lo _ (by omega), cut_hi _ (by omega)]
            exact hl'
        cases l with
        | agree n => exact key 1 (.agree (n + 1)) n (by decide) (by show 1 < 2; decide) (by have : a < 2 - 1 := a1; omega) rfl rfl
        | say n k f =>
          have a3 : a < 4 - 1 := a1
          by_cases h0 : a = 0
          · exact key 1 (.say (n + 1) k f) n (by decide) (by show 1 < 4; decide) (by omega) rfl rfl
          · by_cases h1 : a = 1
            · exact key 2 (.say n (k + 1) f) k (by decide) (by show 2 < 4; decide) (by omega) rfl rfl
            · exact key 3 (.say n k (f + 1)) f (by decide) (by show 3 < 4; decide) (by omega) rfl rfl
end
end K15

set_option maxHeartbeats 4000000
namespace K15
open PySem PySem.Spec PyProof.Rows L2 Evl MyG
theorem LtAt.obj {S A p : Addr} {H : Hp} : ∀ {l : Lt}, LtAt S A H p l → ∃ o, H p = some o ∧ ∀ H' : Hp, H' p = some o → LtAt S A H' p l
  | .say _ _ _, ⟨dx, h⟩ => ⟨_, h, fun _ z => ⟨dx, z⟩⟩
  | .agree _, ⟨dx, h⟩ => ⟨_, h, fun _ z => ⟨dx, z⟩⟩
theorem Wd.sub {s c : Addr} {B B' H : Hp} (W : Wd s c B' H) (e : Ex B B') : Wd s c B H := ⟨e.trans W.ex, fresh_back e W.ns, fresh_back e W.nc, W.st⟩
theorem eqv_lt (l l' : Lt) : PyData.eqv (.tuple l.ds) (.tuple l'.ds) = decide (l = l') := by
  have h1 : PyData.eqv (.str "say") (.str "agree") = false := by decide +kernel
  have h2 : PyData.eqv (.str "agree") (.str "say") = false := by decide +kernel
  have h3 : PyData.eqv (.str "say") (.str "say") = true := by decide +kernel
  have h4 : PyData.eqv (.str "agree") (.str "agree") = true := by decide +kernel
  cases l with
  | say n r f =>
    cases l' with
    | say n' r' f' =>
      simp only [Lt.ds, PyData.eqv, PyData.eqvAll, eqv_int]
      by_cases e1 : n = n' <;> by_cases e2 : r = r' <;> by_cases e3 : f = f' <;> simp [e1, e2, e3]
    | agree m => simp only [Lt.ds]; rw [decide_eq_false (fun z => by cases z)]; unfold PyData.eqv; unfold PyData.eqvAll; rw [h1]; rfl
  | agree n =>
    cases l' with
    | say n' r' f' => simp only [Lt.ds]; rw [decide_eq_false (fun z => by cases z)]; unfold PyData.eqv; unfold PyData.eqvAll; rw [h2]; rfl
    | agree m =>
      simp only [Lt.ds, PyData.eqv, PyData.eqvAll, eqv_int]
      by_cases e1 : n = m <;> simp [e1]
theorem shaped_lt (l : Lt) : SeqAt.shaped (.tuple l.ds) = true := by
  have h1 : PyData.strOk "say" = true := by decide +kernel
  have h2 : PyData.strOk "agree" = true := by decide +kernel
  cases l with
  | say n r f =>
    unfold SeqAt.shaped
    simp [Lt.ds, PyData.canLay0, PyData.canLayAll0, PyData.depth, PyData.depthAll, h1]
  | agree n =>
    unfold SeqAt.shaped
    simp [Lt.ds, PyData.canLay0, PyData.canLayAll0, PyData.depth, PyData.depthAll, h2]
/-- what a letter is held against: a thing of another kind, or a letter -/
def LY (S A : Addr) (H : Hp) (l : Lt) (y : V) (b : Bool) : Prop := ((∃ t, AnyT H y t) ∧ b = false) ∨ ∃ q l', y = .ref q ∧ LtAt S A H q l' ∧ b = decide (l = l')
theorem LY.ext {S A : Addr} {H H' : Hp} {l : Lt} {y : V} {b : Bool} (e : Ex H H') (h : LY S A H l y b) : LY S A H' l y b := by
  rcases h with ⟨⟨t, h⟩, hb⟩ | ⟨q, l', h1, h2, h3⟩
  · exact .inl ⟨⟨t, h.ext e⟩, hb⟩
  · exact .inr ⟨q, l', h1, h2.ext e, h3⟩
section
variable {K : PySem.W.Frag} {σ : L2.St} {H : Hp} {S A p : Addr} {l : Lt} {te : TE} {y : V} {b : Bool} {i : Nat}
theorem LY.anyS (sb : PySem.W.subIn K (.ref A) (.ref S) = some false) (h : LY S A H l y b) : AnyJ K S H y := by
  rcases h with ⟨h, _⟩ | ⟨q, l', rfl, h2, _⟩
  · exact .inl h
  · cases l' with
    | say _ _ _ => obtain ⟨dx, h2⟩ := h2; exact .inr ⟨q, S, dx, _, rfl, h2, notFirst_self⟩
    | agree _ => obtain ⟨dx, h2⟩ := h2; exact .inr ⟨q, A, dx, _, rfl, h2, notFirst_other sb⟩
theorem LY.anyA (sb : PySem.W.subIn K (.ref S) (.ref A) = some false) (h : LY S A H l y b) : AnyJ K A H y := by
  rcases h with ⟨h, _⟩ | ⟨q, l', rfl, h2, _⟩
  · exact .inl h
  · cases l' with
    | say _ _ _ => obtain ⟨dx, h2⟩ := h2; exact .inr ⟨q, S, dx, _, rfl, h2, notFirst_other sb⟩
    | agree _ => obtain ⟨dx, h2⟩ := h2; exact .inr ⟨q, A, dx, _, rfl, h2, notFirst_self⟩
theorem ev_eqLt (s1 : PySem.W.subIn K (.ref A) (.ref S) = some false) (s2 : PySem.W.subIn K (.ref S) (.ref A) = some false) (hl : LtAt S A H p l) (hi : σ[i]? = some (some (.ref p))) (hy : ∀ H1, Ex H H1 → ∀ Q : VK, (∀ v H2, Ex H1 H2 → LY S A H2 l v b → Q v H2) → te σ H1 Q) :
    Ev (tEi (tOp (rEqJ K S (sp_eqS S A) E0) (tVar i) te) (tOp (rEqJ K A (sp_eqA S A) E0) (tVar i) te)) σ H (.bl b) := fun H1 e Q q => by
  cases l with
  | say n r f =>
    refine .inl ⟨_, hi, hy H1 e _ fun v H2 e2 h => ?_⟩
    obtain ⟨dx, hp⟩ := hl.ext (e.trans e2)
    refine ⟨p, dx, _, rfl, hp, h.anyS s1, dx, p, n, r, f, v, rfl, hp, ?_⟩
    rcases h with ⟨⟨t, h⟩, rfl⟩ | ⟨r', l', rfl, h2, rfl⟩
    · exact .inl ⟨t, h, fun H3 e3 => ⟨_, rfl, q H3 (e2.trans e3)⟩⟩
    · exact .inr ⟨r', l', rfl, h2, fun H3 e3 => ⟨_, rfl, q H3 (e2.trans e3)⟩⟩
  | agree n =>
    refine .inr ⟨_, hi, hy H1 e _ fun v H2 e2 h => ?_⟩
    obtain ⟨dx, hp⟩ := hl.ext (e.trans e2)
    refine ⟨p, dx, _, rfl, hp, h.anyA s2, dx, p, n, v, rfl, hp, ?_⟩
    rcases h with ⟨⟨t, h⟩, rfl⟩ | ⟨r', l', rfl, h2, rfl⟩
    · exact .inl ⟨t, h, fun H3 e3 => ⟨_, rfl, q H3 (e2.trans e3)⟩⟩
    · exact .inr ⟨r', l', rfl, h2, fun H3 e3 => ⟨_, rfl, q H3 (e2.trans e3)⟩⟩
theorem ev_neLt (s1 : PySem.W.subIn K (.ref A) (.ref S) = some false) (s2 : PySem.W.subIn K (.ref S) (.ref A) = some false) (hl : LtAt S A H p l) (hi : σ[i]? = some (some (.ref p))) (hy : ∀ H1, Ex H H1 → ∀ Q : VK, (∀ v H2, Ex H1 H2 → LY S A H2 l v b → Q v H2) → te σ H1 Q) :
    Ev (tEi (tOp (rNeJ K S (sp_eqS S A) E0) (tVar i) te) (tOp (rNeJ K A (sp_eqA S A) E0) (tVar i) te)) σ H (.bl (!b)) := fun H1 e Q q => by
  cases l with
  | say n r f =>
    refine .inl ⟨_, hi, hy H1 e _ fun v H2 e2 h => ?_⟩
    obtain ⟨dx, hp⟩ := hl.ext (e.trans e2)
    refine ⟨p, dx, _, rfl, hp, h.anyS s1, dx, p, n, r, f, v, rfl, hp, ?_⟩
    rcases h with ⟨⟨t, h⟩, rfl⟩ | ⟨r', l', rfl, h2, rfl⟩
    · exact .inl ⟨t, h, fun H3 e3 => ⟨_, rfl, q H3 (e2.trans e3)⟩⟩
    · exact .inr ⟨r', l', rfl, h2, fun H3 e3 => ⟨_, rfl, q H3 (e2.trans e3)⟩⟩
  | agree n =>
    refine .inr ⟨_, hi, hy H1 e _ fun v H2 e2 h => ?_⟩
    obtain ⟨dx, hp⟩ := hl.ext (e.trans e2)
    refine ⟨p, dx, _, rfl, hp, h.anyA s2, dx, p, n, v, rfl, hp, ?_⟩
    rcases h with ⟨⟨t, h⟩, rfl⟩ | ⟨r', l', rfl, h2, rfl⟩
    · exact .inl ⟨t, h, fun H3 e3 => ⟨_, rfl, q H3 (e2.trans e3)⟩⟩
    · exact .inr ⟨r', l', rfl, h2, fun H3 e3 => ⟨_, rfl, q H3 (e2.trans e3)⟩⟩
theorem ed_told (hl : LtAt S A H p l) (hi : σ[i]? = some (some (.ref p))) : EvQ (tEi (tMeth S "told" (sp_toldS S) [] E0 (tVar i) tNil) (tMeth A "told" (sp_toldA A) [] E0 (tVar i) tNil)) σ H (.tuple l.ds) := fun H1 e Q q => by
  have hl1 := hl.ext e
  cases l with
  | say n r f =>
    obtain ⟨dx, hp⟩ := hl1
    exact .inl ⟨_, hi, p, dx, _, rfl, hp, fS_t _ _ _, dx, p, n, r, f, rfl, hp, fun t H2 ht e2 h2 => q _ H2 e2 (.tup h2 (lt_dq _))⟩
  | agree n =>
    obtain ⟨dx, hp⟩ := hl1
    exact .inr ⟨_, hi, p, dx, _, rfl, hp, fA_t _, dx, p, n, rfl, hp, fun t H2 ht e2 h2 => q _ H2 e2 (.tup h2 (lt_dq _))⟩
/-- the thing on the right, where it is known -/
theorem ly_ev {v : V} (h : Ev te σ H v) (k : LY S A H l v b) : ∀ H1, Ex H H1 → ∀ Q : VK, (∀ v H2, Ex H1 H2 → LY S A H2 l v b → Q v H2) → te σ H1 Q := fun H1 e Q q => h H1 e Q fun H2 e2 => q v H2 e2 (k.ext (e.trans e2))
theorem ly_ed {d : PyData} (h : EvQ te σ H d) : ∀ H1, Ex H H1 → ∀ Q : VK, (∀ v H2, Ex H1 H2 → LY S A H2 l v false → Q v H2) → te σ H1 Q := fun H1 e Q q => h H1 e Q fun v H2 e2 k => q v H2 e2 (.inl ⟨⟨_, k.any⟩, rfl⟩)
theorem ly_el {xs : List V} (h : EvL te σ H xs) : ∀ H1, Ex H H1 → ∀ Q : VK, (∀ v H2, Ex H1 H2 → LY S A H2 l v false → Q v H2) → te σ H1 Q := fun H1 e Q q => h H1 e Q fun p H2 hp e2 k => q _ H2 e2 (.inl ⟨⟨_, .lst k⟩, rfl⟩)
end
def sp_right : Sp := fun vs H Q _ => ∃ (s c : Addr) (B : Hp), vs = [.ref s] ∧ Wd s c B H ∧ ∀ H', Wd s c B H' → Q (.bl true) H'
section
variable {P : Program} {w : World} {K : PySem.W.Frag} {mg : Str → Option Value} {base : Heap}
theorem ok_right (T : Tx K mg) : FnOk P w K mg base CX0 4 T.a_l_right T.d_l_right ["_law_state_here"] sp_right := by
  have G_l_draw := ok_draw (P := P) (w := w) (base := base) T
  have G_l_letter := ok_letter (P := P) (w := w) (base := base) T
  have G_l_bent := ok_bent (P := P) (w := w) (base := base) T
  have G_l_made := ok_made (P := P) (w := w) (base := base) T
  have G_l_alike := ok_alike (P := P) (w := w) (base := base) T 3
  have G_Say_told := ok_toldS (P := P) (w := w) (base := base) T
  have G_Agree_told := ok_toldA (P := P) (w := w) (base := base) T
  have G_Say___eq__ := ok_eqS (P := P) (w := w) (base := base) T
  have G_Agree___eq__ := ok_eqA (P := P) (w := w) (base := base) T
  refine T.F_l_right.ok sc_l_right (fun vs H Q E h => ?_) (fun cdv A outer s H vs Q E hr h => ?_)
  · obtain ⟨_, _, _, rfl, _⟩ := h
    rfl
  · obtain ⟨s, c, B, rfl, W, q⟩ := h
    refine ⟨_, (pss_cons (ps_set (i := 1) sc_l_right.nd rfl (Or.inl rfl) (pe_call G_l_letter (hr.mono (by decide)) (by rfl) T.g_l_letter T.F_l_letter.kp T.b_l_letter .nil pass0 (pa_cons (pv 0) pa_nil)))
  (pss_cons (ps_set (i := 2) sc_l_right.nd rfl (Or.inl rfl) (pe_call G_l_bent (hr.mono (by decide)) (by rfl) T.g_l_bent T.F_l_bent.kp T.b_l_bent .nil pass0 (pa_cons (pv 0) (pa_cons (pv 1) pa_nil))))
  (pss_cons (ps_par (i := 3) (j := 4) rfl sc_l_right.nd rfl rfl (by decide) rfl rfl (pa_cons (pe_call G_l_made (hr.mono (by decide)) (by rfl) T.g_l_made T.F_l_made.kp T.b_l_made .nil pass0 (pa_cons (pv 1) (pa_cons (pe_cmpR op_eq (pe_call G_l_draw (hr.mono (by decide)) (by rfl) T.g_l_draw T.F_l_draw.kp T.b_l_draw .nil pass0 (pa_cons (pv 0) (pa_cons pe_int pa_nil))) pe_int (nomark _)) pa_nil))) (pa_cons (pe_call G_l_made (hr.mono (by decide)) (by rfl) T.g_l_made T.F_l_made.kp T.b_l_made .nil pass0 (pa_cons (pv 2) (pa_cons (pe_cmpR op_eq (pe_call G_l_draw (hr.mono (by decide)) (by rfl) T.g_l_draw T.F_l_draw.kp T.b_l_draw .nil pass0 (pa_cons (pv 0) (pa_cons pe_int pa_nil))) pe_int (nomark _)) pa_nil))) pa_nil)) (by rfl))
  (pss_cons (ps_if (pt_not (pt_val (pe_call G_l_alike (hr.mono (by decide)) (by rfl) T.g_l_alike T.F_l_alike.kp T.b_l_alike .nil pass0 (pa_cons (pe_lst (pa_cons (pe_either (pe_meth0 (pv 3) T.cl_Say T.me_Say_told G_Say_told (hr.mono (by decide)) T.b_Say_told .nil pass0) (pe_meth0 (pv 3) T.cl_Agree T.me_Agree_told G_Agree_told (hr.mono (by decide)) T.b_Agree_told .nil pass0)) (pa_cons (pe_either (pe_meth0 (pv 4) T.cl_Say T.me_Say_told G_Say_told (hr.mono (by decide)) T.b_Say_told .nil pass0) (pe_meth0 (pv 4) T.cl_Agree T.me_Agree_told G_Agree_told (hr.mono (by decide)) T.b_Agree_told .nil pass0)) (pa_cons (pe_either (pe_meth0 (pv 3) T.cl_Say T.me_Say_told G_Say_told (hr.mono (by decide)) T.b_Say_told .nil pass0) (pe_meth0 (pv 3) T.cl_Agree T.me_Agree_told G_Agree_told (hr.mono (by decide)) T.b_Agree_told .nil pass0)) pa_nil)))) (pa_cons (pe_lst (pa_cons (pv 1) (pa_cons (pv 2) (pa_cons (pv 1) pa_nil)))) pa_nil))))) (pss_one (ps_ret pe_bl)) pss_nil)
  (pss_cons (ps_if (PW.pt (pw_or (pt_not (pt_val (pe_callB (isiK (K := K) rfl) (by rfl) T.z_isinstance (by decide +kernel) (pa_cons (pv 3) (pa_cons (pe_glob (v := .ref T.c_Letter) rfl T.g_Letter rfl) pa_nil))))) (pw_or1 (pt_cmpR op_eq (pe_callB (isiK (K := K) rfl) (by rfl) T.z_isinstance (by decide +kernel) (pa_cons (pv 3) (pa_cons (pe_glob (v := .ref T.c_Say) rfl T.g_Say rfl) pa_nil))) (pe_callB (isiK (K := K) rfl) (by rfl) T.z_isinstance (by decide +kernel) (pa_cons (pv 3) (pa_cons (pe_glob (v := .ref T.c_Agree) rfl T.g_Agree rfl) pa_nil))) (nomark _))))) (pss_one (ps_ret pe_bl)) pss_nil)
  (pss_cons (ps_if (pt_cmpR op_ne (pe_callB (isiK (K := K) rfl) (by rfl) T.z_isinstance (by decide +kernel) (pa_cons (pv 3) (pa_cons (pe_glob (v := .ref T.c_Say) rfl T.g_Say rfl) pa_nil))) (pe_cmpR op_eq (pe_ix (ix_tupK (K := K) rfl) (pv 1) pe_int (fun _ _ => rfl)) pe_str (nomark _)) (nomark _)) (pss_one (ps_ret pe_bl)) pss_nil)
  (pss_cons (ps_set (i := 5) sc_l_right.nd rfl (Or.inl rfl) (pe_cmpR (op_eqK (K := K) rfl hr.units) (pv 1) (pv 2) (nomark _)))
  (pss_cons (ps_if (pt_not (pt_val (pe_call G_l_alike (hr.mono (by decide)) (by rfl) T.g_l_alike T.F_l_alike.kp T.b_l_alike .nil pass0 (pa_cons (pe_lst (pa_cons (pe_either (pe_cmpR (op_eqJ (K := K) rfl T.e_Say G_Say___eq__ (hr.mono (by decide)) T.b_Say___eq__ pass0) (pv 3) (pv 4) (nomark _)) (pe_cmpR (op_eqJ (K := K) rfl T.e_Agree G_Agree___eq__ (hr.mono (by decide)) T.b_Agree___eq__ pass0) (pv 3) (pv 4) (nomark _))) (pa_cons (pe_either (pe_cmpR (op_eqJ (K := K) rfl T.e_Say G_Say___eq__ (hr.mono (by decide)) T.b_Say___eq__ pass0) (pv 4) (pv 3) (nomark _)) (pe_cmpR (op_eqJ (K := K) rfl T.e_Agree G_Agree___eq__ (hr.mono (by decide)) T.b_Agree___eq__ pass0) (pv 4) (pv 3) (nomark _))) pa_nil))) (pa_cons (pe_op op_rep (pe_lst (pa_cons (pv 5) pa_nil)) pe_int) pa_nil))))) (pss_one (ps_ret pe_bl)) pss_nil)
  (pss_cons (ps_if (pt_not (pt_val (pe_call G_l_alike (hr.mono (by decide)) (by rfl) T.g_l_alike T.F_l_alike.kp T.b_l_alike .nil pass0 (pa_cons (pe_lst (pa_cons (pe_either (pe_cmpR (op_neJ (K := K) rfl T.e_Say G_Say___eq__ (hr.mono (by decide)) T.b_Say___eq__ pass0) (pv 3) (pv 4) (nomark _)) (pe_cmpR (op_neJ (K := K) rfl T.e_Agree G_Agree___eq__ (hr.mono (by decide)) T.b_Agree___eq__ pass0) (pv 3) (pv 4) (nomark _))) (pa_cons (pe_either (pe_cmpR (op_neJ (K := K) rfl T.e_Say G_Say___eq__ (hr.mono (by decide)) T.b_Say___eq__ pass0) (pv 4) (pv 3) (nomark _)) (pe_cmpR (op_neJ (K := K) rfl T.e_Agree G_Agree___eq__ (hr.mono (by decide)) T.b_Agree___eq__ pass0) (pv 4) (pv 3) (nomark _))) pa_nil))) (pa_cons (pe_op op_rep (pe_lst (pa_cons (pe_not (pv 5)) pa_nil)) pe_int) pa_nil))))) (pss_one (ps_ret pe_bl)) pss_nil)
  (pss_cons (ps_if (pt_not (pt_val (pe_call G_l_alike (hr.mono (by decide)) (by rfl) T.g_l_alike T.F_l_alike.kp T.b_l_alike .nil pass0 (pa_cons (pe_lst (pa_cons (pe_either (pe_cmpR (op_eqJ (K := K) rfl T.e_Say G_Say___eq__ (hr.mono (by decide)) T.b_Say___eq__ pass0) (pv 3) (pv 1) (nomark _)) (pe_cmpR (op_eqJ (K := K) rfl T.e_Agree G_Agree___eq__ (hr.mono (by decide)) T.b_Agree___eq__ pass0) (pv 3) (pv 1) (nomark _))) (pa_cons (pe_either (pe_cmpR (op_eqJ (K := K) rfl T.e_Say G_Say___eq__ (hr.mono (by decide)) T.b_Say___eq__ pass0) (pv 3) (pe_ix (ix_tupK (K := K) rfl) (pv 1) pe_int (fun _ _ => rfl)) (nomark _)) (pe_cmpR (op_eqJ (K := K) rfl T.e_Agree G_Agree___eq__ (hr.mono (by decide)) T.b_Agree___eq__ pass0) (pv 3) (pe_ix (ix_tupK (K := K) rfl) (pv 1) pe_int (fun _ _ => rfl)) (nomark _))) (pa_cons (pe_either (pe_cmpR (op_eqJ (K := K) rfl T.e_Say G_Say___eq__ (hr.mono (by decide)) T.b_Say___eq__ pass0) (pv 3) (pe_ix (ix_tupK (K := K) rfl) (pv 1) pe_int (fun _ _ => rfl)) (nomark _)) (pe_cmpR (op_eqJ (K := K) rfl T.e_Agree G_Agree___eq__ (hr.mono (by decide)) T.b_Agree___eq__ pass0) (pv 3) (pe_ix (ix_tupK (K := K) rfl) (pv 1) pe_int (fun _ _ => rfl)) (nomark _))) (pa_cons (pe_either (pe_cmpR (op_eqJ (K := K) rfl T.e_Say G_Say___eq__ (hr.mono (by decide)) T.b_Say___eq__ pass0) (pv 3) (pe_lst (pa_cons (pv 3) pa_nil)) (nomark _)) (pe_cmpR (op_eqJ (K := K) rfl T.e_Agree G_Agree___eq__ (hr.mono (by decide)) T.b_Agree___eq__ pass0) (pv 3) (pe_lst (pa_cons (pv 3) pa_nil)) (nomark _))) pa_nil))))) (pa_cons (pe_op op_rep (pe_lst (pa_cons pe_bl pa_nil)) pe_int) pa_nil))))) (pss_one (ps_ret pe_bl)) pss_nil)
  (pss_one (ps_ret (pe_call G_l_alike (hr.mono (by decide)) (by rfl) T.g_l_alike T.F_l_alike.kp T.b_l_alike .nil pass0 (pa_cons (pe_lst (pa_cons (pe_either (pe_cmpR (op_neJ (K := K) rfl T.e_Say G_Say___eq__ (hr.mono (by decide)) T.b_Say___eq__ pass0) (pv 3) (pv 1) (nomark _)) (pe_cmpR (op_neJ (K := K) rfl T.e_Agree G_Agree___eq__ (hr.mono (by decide)) T.b_Agree___eq__ pass0) (pv 3) (pv 1) (nomark _))) (pa_cons (pe_either (pe_cmpR (op_neJ (K := K) rfl T.e_Say G_Say___eq__ (hr.mono (by decide)) T.b_Say___eq__ pass0) (pv 3) (pe_ix (ix_tupK (K := K) rfl) (pv 1) pe_int (fun _ _ => rfl)) (nomark _)) (pe_cmpR (op_neJ (K := K) rfl T.e_Agree G_Agree___eq__ (hr.mono (by decide)) T.b_Agree___eq__ pass0) (pv 3) (pe_ix (ix_tupK (K := K) rfl) (pv 1) pe_int (fun _ _ => rfl)) (nomark _))) (pa_cons (pe_either (pe_cmpR (op_eqJ (K := K) rfl T.e_Say G_Say___eq__ (hr.mono (by decide)) T.b_Say___eq__ pass0) (pv 4) (pv 2) (nomark _)) (pe_cmpR (op_eqJ (K := K) rfl T.e_Agree G_Agree___eq__ (hr.mono (by decide)) T.b_Agree___eq__ pass0) (pv 4) (pv 2) (nomark _))) pa_nil)))) (pa_cons (pe_lst (pa_cons pe_bl (pa_cons pe_bl (pa_cons pe_bl pa_nil)))) pa_nil))))))))))))))), ?_⟩
    refine ⟨_, rfl, s, c, B, rfl, W, fun l t B1 H1 eB1 ht W1 => ?_⟩
    refine ⟨_, rfl, _, rfl, s, c, t, B1, l, rfl, W1, ht, fun l' t' B2 H2 eB2 ht' W2 => ?_⟩
    replace ht := eB2 _ _ ht
    -- both letters
    refine ⟨_, rfl, _, rfl, s, c, 2, rfl, W2.st, by decide, by decide, fun z3 H3 _ _ st3 off3 => ⟨rfl, t, _, l, rfl, (W2.off st3 off3).ex _ _ ht, fun p1 H4 hp1 e4 hl1 => ?_⟩⟩
    have W3 := W2.off st3 off3
    obtain ⟨o1, ho1, k1⟩ := hl1.obj
    have W4 := (W3.ext e4).know ho1 (W3.st.ne_s hp1) (W3.st.ne_c hp1)
    have eB4 : Ex B2 (upd B2 p1 o1) := ex_know (W3.none_of hp1)
    have kB : (upd B2 p1 o1) p1 = some o1 := upd_same
    generalize upd B2 p1 o1 = B4 at W4 eB4 kB
    replace ht := eB4 _ _ ht
    replace ht' := eB4 _ _ ht'
    refine ⟨_, rfl, _, rfl, s, c, 2, rfl, W4.st, by decide, by decide, fun z5 H5 _ _ st5 off5 => ⟨rfl, t', _, l', rfl, (W4.off st5 off5).ex _ _ ht', fun p2 H6 hp2 e6 hl2 => ⟨_, _, rfl, ?_⟩⟩⟩
    have W5 := W4.off st5 off5
    have W6 := W5.ext e6
    replace hl1 := k1 H6 (W6.ex _ _ kB)
    replace ht := W6.ex _ _ ht
    replace ht' := W6.ex _ _ ht'
    have fin : ∀ H', Ex H6 H' → Q (.bl true) H' := fun H' e => q H' (((W6.ext e).sub eB4).sub (eB1.trans eB2))
    clear q
    dsimp only
    show tSeq _ _ _ [some (.ref s), some (.ref t), some (.ref t'), some (.ref p1), some (.ref p2), none] H6
    have tt : ∀ {H7 : Hp} {σ : L2.St}, Ex H6 H7 → σ[1]? = some (some (.ref t)) → EvQ (tVar 1) σ H7 (.tuple l.ds) := fun e h => ed_ev (ev_var h) (.tup (e _ _ ht) (lt_dq _))
    have tt' : ∀ {H7 : Hp} {σ : L2.St}, Ex H6 H7 → σ[2]? = some (some (.ref t')) → EvQ (tVar 2) σ H7 (.tuple l'.ds) := fun e h => ed_ev (ev_var h) (.tup (e _ _ ht') (lt_dq _))
    have al1 := lt_alk 0 l
    have al2 := lt_alk 0 l'
    have al3 : alk 3 (.list [.tuple l.ds, .tuple l'.ds, .tuple l.ds]) = true := by
      show (decide (3 ≤ 1000) && (alk 2 (.tuple l.ds) && (alk 2 (.tuple l'.ds) && (alk 2 (.tuple l.ds) && true)))) = true
      rw [al1, al2]
      rfl
    -- what they tell
    refine q_when (b := false) (et_not (a := true) (et_B (ev_alike (d := .list [.tuple l.ds, .tuple l'.ds, .tuple l.ds]) (ed_lst (eda_cons (ed_told hl1 rfl) (eda_cons (ed_told hl2 rfl) (eda_cons (ed_told hl1 rfl) eda_nil))) (by show 3 ≤ 1000; decide)) (ed_lst (eda_cons (tt (Ex.refl _) rfl) (eda_cons (tt' (Ex.refl _) rfl) (eda_cons (tt (Ex.refl _) rfl) eda_nil))) (by show 3 ≤ 1000; decide)) al3))) (fun z => nomatch z) fun _ H7 e7 => ?_
    -- what they are
    obtain ⟨b1, iL, iS, iA, hb1⟩ : ∃ b1 : Bool, (∀ {H8 : Hp} {σ : L2.St}, Ex H6 H8 → σ[3]? = some (some (.ref p1)) → Ev (tCB (rIsi K) (tCons (tVar 3) (tCons (tC (V.ref T.c_Letter)) tNil))) σ H8 (.bl true)) ∧ (∀ {H8 : Hp} {σ : L2.St}, Ex H6 H8 → σ[3]? = some (some (.ref p1)) → Ev (tCB (rIsi K) (tCons (tVar 3) (tCons (tC (V.ref T.c_Say)) tNil))) σ H8 (.bl b1)) ∧
        (∀ {H8 : Hp} {σ : L2.St}, Ex H6 H8 → σ[3]? = some (some (.ref p1)) → Ev (tCB (rIsi K) (tCons (tVar 3) (tCons (tC (V.ref T.c_Agree)) tNil))) σ H8 (.bl (!b1))) ∧ l.vs[0]? = some (.str (if b1 then "say" else "agree")) := by
      cases l with
      | say n r f =>
        obtain ⟨dx, hp⟩ := id hl1
        exact ⟨true, fun e h => ev_isiC (ev_var h) (e _ _ hp) T.q_Say T.cl_Say T.kt_Say_Letter, fun e h => ev_isiC (ev_var h) (e _ _ hp) T.q_Say T.cl_Say kit_self, fun e h => ev_isiC (ev_var h) (e _ _ hp) T.q_Say T.cl_Say T.kt_Say_Agree, rfl⟩
      | agree n =>
        obtain ⟨dx, hp⟩ := id hl1
        exact ⟨false, fun e h => ev_isiC (ev_var h) (e _ _ hp) T.q_Agree T.cl_Agree T.kt_Agree_Letter, fun e h => ev_isiC (ev_var h) (e _ _ hp) T.q_Agree T.cl_Agree T.kt_Agree_Say, fun e h => ev_isiC (ev_var h) (e _ _ hp) T.q_Agree T.cl_Agree kit_self, rfl⟩
    refine q_when (b := false) (et_or (a := false) (b := false) (et_not (a := true) (et_B (iL e7 rfl))) (fun _ => et_is (et_test (ev_op (iS e7 rfl) (iA e7 rfl) (rv_eq rfl))) (by cases b1 <;> decide))) (fun z => nomatch z) fun _ H8 e8 => ?_
    have e68 := e7.trans e8
    have I : ∀ {H9 : Hp} {σ : L2.St} (j : Nat) {v : V}, Ex H6 H9 → σ[1]? = some (some (.ref t)) → l.vs[j]? = some v → Ev (tOp (rIxT K) (tVar 1) (tC (V.int j))) σ H9 v := fun {H9 σ} j {v} e hσ hj => ev_op (ev_var hσ) ev_c (rv_ixT (SqT.of (e _ _ ht)) (atI_nat hj))
    refine q_when (b := false) (et_is (et_test (ev_op (iS e68 rfl) (ev_op (I 0 e68 rfl hb1) ev_c (rv_eq rfl)) (rv_ne rfl))) (by cases b1 <;> decide +kernel)) (fun z => nomatch z) fun _ H9 e9 => ?_
    have e69 := e68.trans e9
    -- wanted
    refine q_asg (v := .bl (decide (l = l'))) (ev_op (ev_var rfl) (ev_var rfl) (fun H1 e Q q => ⟨.tuple l.ds, .tuple l'.ds, Dq.dp (.tup ((e69.trans e) _ _ ht) (lt_dq _)), Dq.dp (.tup ((e69.trans e) _ _ ht') (lt_dq _)), shaped_lt _, shaped_lt _, by rw [eqv_lt]; exact q H1 (Ex.refl _)⟩)) fun H10 e10 => ?_
    have e610 := e69.trans e10
    show tSeq _ _ _ [some (.ref s), some (.ref t), some (.ref t'), some (.ref p1), some (.ref p2), some (.bl (decide (l = l')))] H10
    have hc : decide (l' = l) = decide (l = l') := decide_eq_decide.mpr eq_comm
    have L1 : ∀ {H11 : Hp} {σ : L2.St}, Ex H6 H11 → σ[3]? = some (some (.ref p1)) → ∀ H12, Ex H11 H12 → ∀ Q : VK, (∀ v H2, Ex H12 H2 → LY T.c_Say T.c_Agree H2 l' v (decide (l = l')) → Q v H2) → tVar 3 σ H12 Q := fun e h => ly_ev (ev_var h) (.inr ⟨p1, l, rfl, hl1.ext e, hc.symm⟩)
    have L2 : ∀ {H11 : Hp} {σ : L2.St}, Ex H6 H11 → σ[4]? = some (some (.ref p2)) → ∀ H12, Ex H11 H12 → ∀ Q : VK, (∀ v H2, Ex H12 H2 → LY T.c_Say T.c_Agree H2 l v (decide (l = l')) → Q v H2) → tVar 4 σ H12 Q := fun e h => ly_ev (ev_var h) (.inr ⟨p2, l', rfl, hl2.ext e, rfl⟩)
    have sS := T.sb_Say_Agree
    have sA := T.sb_Agree_Say
    refine q_when (b := false) (et_not (a := true) (et_B (ev_alike (d := .list [.bool (decide (l = l')), .bool (decide (l = l'))]) (ed_lst (eda_cons (ed_ev (ev_eqLt sS sA (hl1.ext e610) rfl (L2 e610 rfl)) (.bl _)) (eda_cons (ed_ev (ev_eqLt sS sA (hl2.ext e610) rfl (L1 e610 rfl)) (.bl _)) eda_nil)) (by show 2 ≤ 1000; decide)) (ed_is (ed_repB (k := 2) (ev_var rfl) (by decide)) rfl) (by simp [alk])))) (fun z => nomatch z) fun _ H11 e11 => ?_
    have e611 := e610.trans e11
    refine q_when (b := false) (et_not (a := true) (et_B (ev_alike (d := .list [.bool (!decide (l = l')), .bool (!decide (l = l'))]) (ed_lst (eda_cons (ed_ev (ev_neLt sS sA (hl1.ext e611) rfl (L2 e611 rfl)) (.bl _)) (eda_cons (ed_ev (ev_neLt sS sA (hl2.ext e611) rfl (L1 e611 rfl)) (.bl _)) eda_nil)) (by show 2 ≤ 1000; decide)) (ed_is (ed_repB (k := 2) (ev_notV (ev_var rfl)) (by decide)) rfl) (by simp [alk])))) (fun z => nomatch z) fun _ H12 e12 => ?_
    have e612 := e611.trans e12
    obtain ⟨n1, hn1⟩ : ∃ n1, l.vs[1]? = some (.int n1) := by cases l; exact ⟨_, rfl⟩; exact ⟨_, rfl⟩
    have nI : ∀ {H13 : Hp} {i : Int}, LY T.c_Say T.c_Agree H13 l (.int i) false := .inl ⟨⟨_, .int _⟩, rfl⟩
    have nS : ∀ {H13 : Hp} {x : Str}, LY T.c_Say T.c_Agree H13 l (.str x) false := .inl ⟨⟨_, .str _⟩, rfl⟩
    refine q_when (b := false) (et_not (a := true) (et_B (ev_alike (d := .list [.bool false, .bool false, .bool false, .bool false]) (ed_lst (eda_cons (ed_ev (ev_eqLt sS sA (hl1.ext e612) rfl (ly_ed (tt e612 rfl))) (.bl _)) (eda_cons (ed_ev (ev_eqLt sS sA (hl1.ext e612) rfl (ly_ev (I 1 e612 rfl hn1) nI)) (.bl _)) (eda_cons (ed_ev (ev_eqLt sS sA (hl1.ext e612) rfl (ly_ev (I 0 e612 rfl hb1) nS)) (.bl _)) (eda_cons (ed_ev (ev_eqLt sS sA (hl1.ext e612) rfl (ly_el (el_lst (ea_cons (ev_var rfl) ea_nil) (by show 1 ≤ 100000; decide)))) (.bl _)) eda_nil)))) (by show 4 ≤ 1000; decide)) (ed_is (ed_repB (k := 4) ev_c (by decide)) rfl) (by simp [alk])))) (fun z => nomatch z) fun _ H13 e13 => ?_
    have e613 := e612.trans e13
    refine s_ret (v := .bl true) (ev_alike (d := .list [.bool true, .bool true, .bool false]) (ed_lst (eda_cons (ed_ev (ev_neLt sS sA (hl1.ext e613) rfl (ly_ed (tt e613 rfl))) (.bl _)) (eda_cons (ed_ev (ev_neLt sS sA (hl1.ext e613) rfl (ly_ev (I 1 e613 rfl hn1) nI)) (.bl _)) (eda_cons (ed_ev (ev_eqLt sS sA (hl2.ext e613) rfl (ly_ed (tt' e613 rfl))) (.bl _)) eda_nil))) (by show 3 ≤ 1000; decide)) (ed_lst (eda_cons (ed_ev ev_c (.bl _)) (eda_cons (ed_ev ev_c (.bl _)) (eda_cons (ed_ev ev_c (.bl _)) eda_nil))) (by show 3 ≤ 1000; decide)) (by simp [alk])) fun H14 e14 => fin H14 (e613.trans e14)
end
end K15

set_option maxHeartbeats 4000000
namespace K15
open PySem PySem.Spec PyProof.Rows L2 Evl MyG
def sp_law (K : PySem.W.Frag) : Sp := fun vs H Q _ => ∃ (a : Addr) (ns : List Int), vs = [.ref a] ∧ SqL K H a (ns.map V.int) ∧ ns.length ≤ 63 ∧ ∀ H', Q (.bl true) H'
theorem law_start (K : PySem.W.Frag) (H : Hp) (a : Addr) (ns : List Int) (hl : ns.length ≤ 63) (hS : SqL K H a (ns.map V.int)) : sp_law K [.ref a] H (fun v _ => v = .bl true) fun _ _ _ => False := ⟨a, ns, rfl, hS, hl, fun _ => rfl⟩
section
variable {P : Program} {w : World} {K : PySem.W.Frag} {mg : Str → Option Value} {base : Heap}
theorem ok_law (T : Tx K mg) : FnOkG P w K mg base CX0 6 T.a_law T.d_law ["_law_script"] (sp_law K) := by
  have G_l_state := ok_state (P := P) (w := w) (base := base) T
  have G_l_right := ok_right (P := P) (w := w) (base := base) T
  refine okG T.F_law sc_law (fun vs H Q E h => ?_) (fun cdv A outer s H vs Q E hgd hr h => ?_)
  · obtain ⟨_, _, rfl, _⟩ := h
    rfl
  · obtain ⟨a, ns, rfl, hS, hlen, q⟩ := h
    refine ⟨_, (pss_cons (ps_set (i := 1) sc_law.nd rfl (Or.inl rfl) (pe_call G_l_state (hr.mono (by decide)) (by rfl) T.g_l_state T.F_l_state.kp T.b_l_state .nil pass0 (pa_cons (pv 0) pa_nil)))
  (pss_cons (ps_for PassesOwn.never rfl (pi_range1 rfl T.z_range (pa_cons pe_int pa_nil)) (pg_name (i := 2) sc_law.nd rfl (Or.inl rfl))
   (pss_one (ps_if (pt_not (pt_val (pe_call G_l_right (hr.mono (by decide)) (by rfl) T.g_l_right T.F_l_right.kp T.b_l_right .nil pass0 (pa_cons (pv 1) pa_nil)))) (pss_one (ps_ret pe_bl)) pss_nil)))
  (pss_one (ps_ret pe_bl)))), ?_⟩
    refine ⟨_, rfl, a, ns, rfl, hS, hlen, fun s c H1 e1 hs hc st => ?_⟩
    refine ⟨8, rfl, by decide, by decide, for_range (lo := 0) (n := (8 : Int).toNat) (fun i σ H' => ∃ (y2 : Option V), σ = [some (.ref a), some (.ref s), y2] ∧ Sta s c H') ⟨_, rfl, st⟩ ?_ ?_⟩
    · rintro i σ H2 hi ⟨y2, rfl, st2⟩
      have W0 : Wd s c (fun _ => none) H2 := ⟨fun _ _ z => (nomatch z), rfl, rfl, st2⟩
      exact ⟨_, rfl, s, c, fun _ => none, rfl, W0, fun H3 W3 => ⟨_, rfl, iteF ⟨_, rfl, W3.st⟩⟩⟩
    · rintro σ H2 ⟨y2, rfl, st2⟩
      exact q H2
end
end K15

set_option maxHeartbeats 8000000
namespace K15
open PySem PySem.Spec PyProof.Rows L2 Evl MyG
/-! ### what the top has written -/
theorem all_mk {l : PySem.W.OpenLaw} {w : World} {K : PySem.W.Frag} {h : Heap} {mg : Str → Option Value} {fa : Addr} (X : K.In h) (G : h.Ns mainGlobals mg) (hfa : mg "law" = some (.ref fa))
    {C_Letter : Addr}
    {C_Say : Addr}
    {C_Agree : Addr}
    {f_l_state : Addr} {od_l_state an_l_state : Option Addr} {sl_l_state : Array (Option Value)} {oc_l_state kV_l_state dc_l_state pm_l_state cd_l_state ct_l_state : Value}
    {f_l_draw : Addr} {od_l_draw an_l_draw : Option Addr} {sl_l_draw : Array (Option Value)} {oc_l_draw kV_l_draw dc_l_draw pm_l_draw cd_l_draw ct_l_draw : Value}
    {f_l_alike : Addr} {od_l_alike an_l_alike : Option Addr} {sl_l_alike : Array (Option Value)} {oc_l_alike kV_l_alike dc_l_alike pm_l_alike cd_l_alike ct_l_alike : Value}
    {f_l_letter : Addr} {od_l_letter an_l_letter : Option Addr} {sl_l_letter : Array (Option Value)} {oc_l_letter kV_l_letter dc_l_letter pm_l_letter cd_l_letter ct_l_letter : Value}
    {f_l_made : Addr} {od_l_made an_l_made : Option Addr} {sl_l_made : Array (Option Value)} {oc_l_made kV_l_made dc_l_made pm_l_made cd_l_made ct_l_made : Value}
    {f_l_bent : Addr} {od_l_bent an_l_bent : Option Addr} {sl_l_bent : Array (Option Value)} {oc_l_bent kV_l_bent dc_l_bent pm_l_bent cd_l_bent ct_l_bent : Value}
    {f_l_right : Addr} {od_l_right an_l_right : Option Addr} {sl_l_right : Array (Option Value)} {oc_l_right kV_l_right dc_l_right pm_l_right cd_l_right ct_l_right : Value}
    {f_Say___init__ : Addr} {od_Say___init__ an_Say___init__ : Option Addr} {sl_Say___init__ : Array (Option Value)} {oc_Say___init__ kV_Say___init__ dc_Say___init__ pm_Say___init__ cd_Say___init__ ct_Say___init__ : Value}
    {f_Say___eq__ : Addr} {od_Say___eq__ an_Say___eq__ : Option Addr} {sl_Say___eq__ : Array (Option Value)} {oc_Say___eq__ kV_Say___eq__ dc_Say___eq__ pm_Say___eq__ cd_Say___eq__ ct_Say___eq__ : Value}
    {f_Say_told : Addr} {od_Say_told an_Say_told : Option Addr} {sl_Say_told : Array (Option Value)} {oc_Say_told kV_Say_told dc_Say_told pm_Say_told cd_Say_told ct_Say_told : Value}
    {f_Agree___init__ : Addr} {od_Agree___init__ an_Agree___init__ : Option Addr} {sl_Agree___init__ : Array (Option Value)} {oc_Agree___init__ kV_Agree___init__ dc_Agree___init__ pm_Agree___init__ cd_Agree___init__ ct_Agree___init__ : Value}
    {f_Agree___eq__ : Addr} {od_Agree___eq__ an_Agree___eq__ : Option Addr} {sl_Agree___eq__ : Array (Option Value)} {oc_Agree___eq__ kV_Agree___eq__ dc_Agree___eq__ pm_Agree___eq__ cd_Agree___eq__ ct_Agree___eq__ : Value}
    {f_Agree_told : Addr} {od_Agree_told an_Agree_told : Option Addr} {sl_Agree_told : Array (Option Value)} {oc_Agree_told kV_Agree_told dc_Agree_told pm_Agree_told cd_Agree_told ct_Agree_told : Value}
    {f_law : Addr} {od_law an_law : Option Addr} {sl_law : Array (Option Value)} {oc_law kV_law dc_law pm_law cd_law ct_law : Value}
    (aC_Letter : PySem.W.nsIn K mainGlobals "Letter" = some (some (.ref C_Letter)))
    (pg_Letter : PySem.W.plainGet K C_Letter Str.empty = true)
    (hd_Letter : PySem.W.hasDictIn K C_Letter = true)
    (po_Letter : PySem.W.plainOver K C_Letter = true)
    (sa_Letter : PySem.W.findIn K (.ref C_Letter) "__setattr__" = some (some (.builtin "object.__setattr__")))
    (mk_Letter : PySem.W.makesIn K C_Letter = true)
    (kc_Letter : PySem.W.keepIn K (.ref C_Letter) = true)
    (aC_Say : PySem.W.nsIn K mainGlobals "Say" = some (some (.ref C_Say)))
    (pg_Say : PySem.W.plainGet K C_Say Str.empty = true)
    (hd_Say : PySem.W.hasDictIn K C_Say = true)
    (po_Say : PySem.W.plainOver K C_Say = true)
    (sa_Say : PySem.W.findIn K (.ref C_Say) "__setattr__" = some (some (.builtin "object.__setattr__")))
    (mk_Say : PySem.W.makesIn K C_Say = true)
    (kc_Say : PySem.W.keepIn K (.ref C_Say) = true)
    (aC_Agree : PySem.W.nsIn K mainGlobals "Agree" = some (some (.ref C_Agree)))
    (pg_Agree : PySem.W.plainGet K C_Agree Str.empty = true)
    (hd_Agree : PySem.W.hasDictIn K C_Agree = true)
    (po_Agree : PySem.W.plainOver K C_Agree = true)
    (sa_Agree : PySem.W.findIn K (.ref C_Agree) "__setattr__" = some (some (.builtin "object.__setattr__")))
    (mk_Agree : PySem.W.makesIn K C_Agree = true)
    (kc_Agree : PySem.W.keepIn K (.ref C_Agree) = true)
    (a_l_state : PySem.W.nsIn K mainGlobals "_law_state" = some (some (.ref f_l_state)))
    (l_l_state : K.lookup f_l_state = some ⟨oc_l_state, od_l_state, .func (PySem.W.fnOf "_law_state" "_law_state" (defArgs s_l_state) (defBody s_l_state) (defScope s_l_state) .none kV_l_state dc_l_state pm_l_state an_l_state cd_l_state ct_l_state), sl_l_state⟩)
    (c_l_state : PySem.W.codeIn K cd_l_state "_law_state" = true)
    (k_l_state : PySem.W.keepIn K (.ref f_l_state) = true)
    (a_l_draw : PySem.W.nsIn K mainGlobals "_law_draw" = some (some (.ref f_l_draw)))
    (l_l_draw : K.lookup f_l_draw = some ⟨oc_l_draw, od_l_draw, .func (PySem.W.fnOf "_law_draw" "_law_draw" (defArgs s_l_draw) (defBody s_l_draw) (defScope s_l_draw) .none kV_l_draw dc_l_draw pm_l_draw an_l_draw cd_l_draw ct_l_draw), sl_l_draw⟩)
    (c_l_draw : PySem.W.codeIn K cd_l_draw "_law_draw" = true)
    (k_l_draw : PySem.W.keepIn K (.ref f_l_draw) = true)
    (a_l_alike : PySem.W.nsIn K mainGlobals "_law_alike" = some (some (.ref f_l_alike)))
    (l_l_alike : K.lookup f_l_alike = some ⟨oc_l_alike, od_l_alike, .func (PySem.W.fnOf "_law_alike" "_law_alike" (defArgs s_l_alike) (defBody s_l_alike) (defScope s_l_alike) .none kV_l_alike dc_l_alike pm_l_alike an_l_alike cd_l_alike ct_l_alike), sl_l_alike⟩)
    (c_l_alike : PySem.W.codeIn K cd_l_alike "_law_alike" = true)
    (k_l_alike : PySem.W.keepIn K (.ref f_l_alike) = true)
    (a_l_letter : PySem.W.nsIn K mainGlobals "_law_letter" = some (some (.ref f_l_letter)))
    (l_l_letter : K.lookup f_l_letter = some ⟨oc_l_letter, od_l_letter, .func (PySem.W.fnOf "_law_letter" "_law_letter" (defArgs s_l_letter) (defBody s_l_letter) (defScope s_l_letter) .none kV_l_letter dc_l_letter pm_l_letter an_l_letter cd_l_letter ct_l_letter), sl_l_letter⟩)
    (c_l_letter : PySem.W.codeIn K cd_l_letter "_law_letter" = true)
    (k_l_letter : PySem.W.keepIn K (.ref f_l_letter) = true)
    (a_l_made : PySem.W.nsIn K mainGlobals "_law_made" = some (some (.ref f_l_made)))
    (l_l_made : K.lookup f_l_made = some ⟨oc_l_made, od_l_made, .func (PySem.W.fnOf "_law_made" "_law_made" (defArgs s_l_made) (defBody s_l_made) (defScope s_l_made) .none kV_l_made dc_l_made pm_l_made an_l_made cd_l_made ct_l_made), sl_l_made⟩)
    (c_l_made : PySem.W.codeIn K cd_l_made "_law_made" = true)
    (k_l_made : PySem.W.keepIn K (.ref f_l_made) = true)
    (a_l_bent : PySem.W.nsIn K mainGlobals "_law_bent" = some (some (.ref f_l_bent)))
    (l_l_bent : K.lookup f_l_bent = some ⟨oc_l_bent, od_l_bent, .func (PySem.W.fnOf "_law_bent" "_law_bent" (defArgs s_l_bent) (defBody s_l_bent) (defScope s_l_bent) .none kV_l_bent dc_l_bent pm_l_bent an_l_bent cd_l_bent ct_l_bent), sl_l_bent⟩)
    (c_l_bent : PySem.W.codeIn K cd_l_bent "_law_bent" = true)
    (k_l_bent : PySem.W.keepIn K (.ref f_l_bent) = true)
    (a_l_right : PySem.W.nsIn K mainGlobals "_law_right" = some (some (.ref f_l_right)))
    (l_l_right : K.lookup f_l_right = some ⟨oc_l_right, od_l_right, .func (PySem.W.fnOf "_law_right" "_law_right" (defArgs s_l_right) (defBody s_l_right) (defScope s_l_right) .none kV_l_right dc_l_right pm_l_right an_l_right cd_l_right ct_l_right), sl_l_right⟩)
    (c_l_right : PySem.W.codeIn K cd_l_right "_law_right" = true)
    (k_l_right : PySem.W.keepIn K (.ref f_l_right) = true)
    (a_Say___init__ : PySem.W.findIn K (.ref C_Say) "__init__" = some (some (.ref f_Say___init__)))
    (i_Say___init__ : PySem.W.isFn K (.ref f_Say___init__) = true)
    (l_Say___init__ : K.lookup f_Say___init__ = some ⟨oc_Say___init__, od_Say___init__, .func (PySem.W.fnOf "__init__" "Say.__init__" (defArgs s_Say___init__) (defBody s_Say___init__) (defScope s_Say___init__) .none kV_Say___init__ dc_Say___init__ pm_Say___init__ an_Say___init__ cd_Say___init__ ct_Say___init__), sl_Say___init__⟩)
    (c_Say___init__ : PySem.W.codeIn K cd_Say___init__ "Say.__init__" = true)
    (k_Say___init__ : PySem.W.keepIn K (.ref f_Say___init__) = true)
    (a_Say___eq__ : PySem.W.findIn K (.ref C_Say) "__eq__" = some (some (.ref f_Say___eq__)))
    (i_Say___eq__ : PySem.W.isFn K (.ref f_Say___eq__) = true)
    (l_Say___eq__ : K.lookup f_Say___eq__ = some ⟨oc_Say___eq__, od_Say___eq__, .func (PySem.W.fnOf "__eq__" "Say.__eq__" (defArgs s_Say___eq__) (defBody s_Say___eq__) (defScope s_Say___eq__) .none kV_Say___eq__ dc_Say___eq__ pm_Say___eq__ an_Say___eq__ cd_Say___eq__ ct_Say___eq__), sl_Say___eq__⟩)
    (c_Say___eq__ : PySem.W.codeIn K cd_Say___eq__ "Say.__eq__" = true)
    (k_Say___eq__ : PySem.W.keepIn K (.ref f_Say___eq__) = true)
    (a_Say_told : PySem.W.findIn K (.ref C_Say) "told" = some (some (.ref f_Say_told)))
    (i_Say_told : PySem.W.isFn K (.ref f_Say_told) = true)
    (l_Say_told : K.lookup f_Say_told = some ⟨oc_Say_told, od_Say_told, .func (PySem.W.fnOf "told" "Say.told" (defArgs s_Say_told) (defBody s_Say_told) (defScope s_Say_told) .none kV_Say_told dc_Say_told pm_Say_told an_Say_told cd_Say_told ct_Say_told), sl_Say_told⟩)
    (c_Say_told : PySem.W.codeIn K cd_Say_told "Say.told" = true)
    (k_Say_told : PySem.W.keepIn K (.ref f_Say_told) = true)
    (a_Agree___init__ : PySem.W.findIn K (.ref C_Agree) "__init__" = some (some (.ref f_Agree___init__)))
    (i_Agree___init__ : PySem.W.isFn K (.ref f_Agree___init__) = true)
    (l_Agree___init__ : K.lookup f_Agree___init__ = some ⟨oc_Agree___init__, od_Agree___init__, .func (PySem.W.fnOf "__init__" "Agree.__init__" (defArgs s_Agree___init__) (defBody s_Agree___init__) (defScope s_Agree___init__) .none kV_Agree___init__ dc_Agree___init__ pm_Agree___init__ an_Agree___init__ cd_Agree___init__ ct_Agree___init__), sl_Agree___init__⟩)
    (c_Agree___init__ : PySem.W.codeIn K cd_Agree___init__ "Agree.__init__" = true)
    (k_Agree___init__ : PySem.W.keepIn K (.ref f_Agree___init__) = true)
    (a_Agree___eq__ : PySem.W.findIn K (.ref C_Agree) "__eq__" = some (some (.ref f_Agree___eq__)))
    (i_Agree___eq__ : PySem.W.isFn K (.ref f_Agree___eq__) = true)
    (l_Agree___eq__ : K.lookup f_Agree___eq__ = some ⟨oc_Agree___eq__, od_Agree___eq__, .func (PySem.W.fnOf "__eq__" "Agree.__eq__" (defArgs s_Agree___eq__) (defBody s_Agree___eq__) (defScope s_Agree___eq__) .none kV_Agree___eq__ dc_Agree___eq__ pm_Agree___eq__ an_Agree___eq__ cd_Agree___eq__ ct_Agree___eq__), sl_Agree___eq__⟩)
    (c_Agree___eq__ : PySem.W.codeIn K cd_Agree___eq__ "Agree.__eq__" = true)
    (k_Agree___eq__ : PySem.W.keepIn K (.ref f_Agree___eq__) = true)
    (a_Agree_told : PySem.W.findIn K (.ref C_Agree) "told" = some (some (.ref f_Agree_told)))
    (i_Agree_told : PySem.W.isFn K (.ref f_Agree_told) = true)
    (l_Agree_told : K.lookup f_Agree_told = some ⟨oc_Agree_told, od_Agree_told, .func (PySem.W.fnOf "told" "Agree.told" (defArgs s_Agree_told) (defBody s_Agree_told) (defScope s_Agree_told) .none kV_Agree_told dc_Agree_told pm_Agree_told an_Agree_told cd_Agree_told ct_Agree_told), sl_Agree_told⟩)
    (c_Agree_told : PySem.W.codeIn K cd_Agree_told "Agree.told" = true)
    (k_Agree_told : PySem.W.keepIn K (.ref f_Agree_told) = true)
    (a_law : PySem.W.nsIn K mainGlobals "law" = some (some (.ref f_law)))
    (l_law : K.lookup f_law = some ⟨oc_law, od_law, .func (PySem.W.fnOf "law" "law" (defArgs s_law) (defBody s_law) (defScope s_law) .none kV_law dc_law pm_law an_law cd_law ct_law), sl_law⟩)
    (c_law : PySem.W.codeIn K cd_law "law" = true)
    (k_law : PySem.W.keepIn K (.ref f_law) = true)
    (en_Say : PySem.W.findIn K (.ref C_Say) "__ne__" = some (some (.builtin "object.__ne__")))
    (eo_Say : PySem.W.subIn K (.ref C_Say) (.type "object") = some true)
    (es_Say_NoneType : PySem.W.subIn K (.ref C_Say) (.type "NoneType") = some false)
    (es_Say_bool : PySem.W.subIn K (.ref C_Say) (.type "bool") = some false)
    (es_Say_int : PySem.W.subIn K (.ref C_Say) (.type "int") = some false)
    (es_Say_str : PySem.W.subIn K (.ref C_Say) (.type "str") = some false)
    (es_Say_list : PySem.W.subIn K (.ref C_Say) (.type "list") = some false)
    (es_Say_tuple : PySem.W.subIn K (.ref C_Say) (.type "tuple") = some false)
    (es_Say_dict : PySem.W.subIn K (.ref C_Say) (.type "dict") = some false)
    (qc_Say : PySem.W.findIn K (.ref C_Say) "__class__" = some (some (.builtin "object.__class__")))
    (qg_Say : PySem.W.specialIn K (.builtin "object.__class__") "__get__" = some (some (.builtin "getset_descriptor.__get__")))
    (qt_Say : PySem.W.takesIn K (.builtin "object.__class__") = some true)
    (qm_Say : PySem.W.mroIn K C_Say (.type "object") = some true)
    (qk_Say_NoneType : PySem.W.kitOne K (.type "NoneType") (.ref C_Say) = some false)
    (qk_Say_bool : PySem.W.kitOne K (.type "bool") (.ref C_Say) = some false)
    (qk_Say_int : PySem.W.kitOne K (.type "int") (.ref C_Say) = some false)
    (qk_Say_str : PySem.W.kitOne K (.type "str") (.ref C_Say) = some false)
    (qk_Say_list : PySem.W.kitOne K (.type "list") (.ref C_Say) = some false)
    (qk_Say_tuple : PySem.W.kitOne K (.type "tuple") (.ref C_Say) = some false)
    (qk_Say_dict : PySem.W.kitOne K (.type "dict") (.ref C_Say) = some false)
    (en_Agree : PySem.W.findIn K (.ref C_Agree) "__ne__" = some (some (.builtin "object.__ne__")))
    (eo_Agree : PySem.W.subIn K (.ref C_Agree) (.type "object") = some true)
    (es_Agree_NoneType : PySem.W.subIn K (.ref C_Agree) (.type "NoneType") = some false)
    (es_Agree_bool : PySem.W.subIn K (.ref C_Agree) (.type "bool") = some false)
    (es_Agree_int : PySem.W.subIn K (.ref C_Agree) (.type "int") = some false)
    (es_Agree_str : PySem.W.subIn K (.ref C_Agree) (.type "str") = some false)
    (es_Agree_list : PySem.W.subIn K (.ref C_Agree) (.type "list") = some false)
    (es_Agree_tuple : PySem.W.subIn K (.ref C_Agree) (.type "tuple") = some false)
    (es_Agree_dict : PySem.W.subIn K (.ref C_Agree) (.type "dict") = some false)
    (qc_Agree : PySem.W.findIn K (.ref C_Agree) "__class__" = some (some (.builtin "object.__class__")))
    (qg_Agree : PySem.W.specialIn K (.builtin "object.__class__") "__get__" = some (some (.builtin "getset_descriptor.__get__")))
    (qt_Agree : PySem.W.takesIn K (.builtin "object.__class__") = some true)
    (qm_Agree : PySem.W.mroIn K C_Agree (.type "object") = some true)
    (qk_Agree_NoneType : PySem.W.kitOne K (.type "NoneType") (.ref C_Agree) = some false)
    (qk_Agree_bool : PySem.W.kitOne K (.type "bool") (.ref C_Agree) = some false)
    (qk_Agree_int : PySem.W.kitOne K (.type "int") (.ref C_Agree) = some false)
    (qk_Agree_str : PySem.W.kitOne K (.type "str") (.ref C_Agree) = some false)
    (qk_Agree_list : PySem.W.kitOne K (.type "list") (.ref C_Agree) = some false)
    (qk_Agree_tuple : PySem.W.kitOne K (.type "tuple") (.ref C_Agree) = some false)
    (qk_Agree_dict : PySem.W.kitOne K (.type "dict") (.ref C_Agree) = some false)
    (kt_Say_Letter : PySem.W.kitOne K (.ref C_Say) (.ref C_Letter) = some true)
    (kt_Agree_Letter : PySem.W.kitOne K (.ref C_Agree) (.ref C_Letter) = some true)
    (kt_Say_Agree : PySem.W.kitOne K (.ref C_Say) (.ref C_Agree) = some false)
    (kt_Agree_Say : PySem.W.kitOne K (.ref C_Agree) (.ref C_Say) = some false)
    (sb_Say_Agree : PySem.W.subIn K (.ref C_Agree) (.ref C_Say) = some false)
    (sb_Agree_Say : PySem.W.subIn K (.ref C_Say) (.ref C_Agree) = some false)
    (na_Say_number : PySem.W.findIn K (.ref C_Say) "number" = some none)
    (na_Say_root : PySem.W.findIn K (.ref C_Say) "root" = some none)
    (na_Say_far : PySem.W.findIn K (.ref C_Say) "far" = some none)
    (na_Agree_number : PySem.W.findIn K (.ref C_Agree) "number" = some none)
    (z_abs : PySem.W.nsIn K mainGlobals "abs" = some none)
    (z_len : PySem.W.nsIn K mainGlobals "len" = some none)
    (z_range : PySem.W.nsIn K mainGlobals "range" = some none)
    (z_list : PySem.W.nsIn K mainGlobals "list" = some none)
    (z_all : PySem.W.nsIn K mainGlobals "all" = some none)
    (z_isinstance : PySem.W.nsIn K mainGlobals "isinstance" = some none)
    (z_tuple : PySem.W.nsIn K mainGlobals "tuple" = some none)
    (z_int : PySem.W.nsIn K mainGlobals "int" = some none)
    (z_bool : PySem.W.nsIn K mainGlobals "bool" = some none)
    (z_str : PySem.W.nsIn K mainGlobals "str" = some none) :
    ∃ fd : FuncData, (∀ (s : Shared) (v : Value), BindsTo s fd ⟨[v], []⟩ [("_law_script", v)]) ∧ ∀ base : Heap, K.In base → base.Ns mainGlobals mg → FnOkG l.prog w K mg base CX0 6 fa fd ["_law_script"] (sp_law K) := by
  have e := hfa.symm.trans (PySem.W.mg_of X G a_law)
  cases e
  have F_l_state := fun_mk (st := s_l_state) l_l_state c_l_state k_l_state
  have b_l_state := F_l_state.binds (ps := ["_law_script"]) fun _ _ _ _ _ _ us hl => match us, hl with | [_], _ => rfl
  have F_l_draw := fun_mk (st := s_l_draw) l_l_draw c_l_draw k_l_draw
  have b_l_draw := F_l_draw.binds (ps := ["_law_state_here", "_law_many"]) fun _ _ _ _ _ _ us hl => match us, hl with | [_, _], _ => rfl
  have F_l_alike := fun_mk (st := s_l_alike) l_l_alike c_l_alike k_l_alike
  have b_l_alike := F_l_alike.binds (ps := ["_law_one", "_law_other"]) fun _ _ _ _ _ _ us hl => match us, hl with | [_, _], _ => rfl
  have F_l_letter := fun_mk (st := s_l_letter) l_l_letter c_l_letter k_l_letter
  have b_l_letter := F_l_letter.binds (ps := ["_law_state_here"]) fun _ _ _ _ _ _ us hl => match us, hl with | [_], _ => rfl
  have F_l_made := fun_mk (st := s_l_made) l_l_made c_l_made k_l_made
  have b_l_made := F_l_made.binds (ps := ["_law_told", "_law_named"]) fun _ _ _ _ _ _ us hl => match us, hl with | [_, _], _ => rfl
  have F_l_bent := fun_mk (st := s_l_bent) l_l_bent c_l_bent k_l_bent
  have b_l_bent := F_l_bent.binds (ps := ["_law_state_here", "_law_told"]) fun _ _ _ _ _ _ us hl => match us, hl with | [_, _], _ => rfl
  have F_l_right := fun_mk (st := s_l_right) l_l_right c_l_right k_l_right
  have b_l_right := F_l_right.binds (ps := ["_law_state_here"]) fun _ _ _ _ _ _ us hl => match us, hl with | [_], _ => rfl
  have F_Say___init__ := fun_mk (st := s_Say___init__) l_Say___init__ c_Say___init__ k_Say___init__
  have b_Say___init__ := F_Say___init__.binds (ps := ["self", "number", "root", "far"]) fun _ _ _ _ _ _ us hl => match us, hl with | [_, _, _, _], _ => rfl
  have F_Say___eq__ := fun_mk (st := s_Say___eq__) l_Say___eq__ c_Say___eq__ k_Say___eq__
  have b_Say___eq__ := F_Say___eq__.binds (ps := ["self", "other"]) fun _ _ _ _ _ _ us hl => match us, hl with | [_, _], _ => rfl
  have F_Say_told := fun_mk (st := s_Say_told) l_Say_told c_Say_told k_Say_told
  have b_Say_told := F_Say_told.binds (ps := ["self"]) fun _ _ _ _ _ _ us hl => match us, hl with | [_], _ => rfl
  have F_Agree___init__ := fun_mk (st := s_Agree___init__) l_Agree___init__ c_Agree___init__ k_Agree___init__
  have b_Agree___init__ := F_Agree___init__.binds (ps := ["self", "number"]) fun _ _ _ _ _ _ us hl => match us, hl with | [_, _], _ => rfl
  have F_Agree___eq__ := fun_mk (st := s_Agree___eq__) l_Agree___eq__ c_Agree___eq__ k_Agree___eq__
  have b_Agree___eq__ := F_Agree___eq__.binds (ps := ["self", "other"]) fun _ _ _ _ _ _ us hl => match us, hl with | [_, _], _ => rfl
  have F_Agree_told := fun_mk (st := s_Agree_told) l_Agree_told c_Agree_told k_Agree_told
  have b_Agree_told := F_Agree_told.binds (ps := ["self"]) fun _ _ _ _ _ _ us hl => match us, hl with | [_], _ => rfl
  have F_law := fun_mk (st := s_law) l_law c_law k_law
  have b_law := F_law.binds (ps := ["_law_script"]) fun _ _ _ _ _ _ us hl => match us, hl with | [_], _ => rfl
  let T : Tx K mg := {
    c_Letter := C_Letter,
    g_Letter := PySem.W.mg_of X G aC_Letter,
    cl_Letter := ⟨pg_Letter, hd_Letter, po_Letter, sa_Letter⟩,
    c_Say := C_Say,
    g_Say := PySem.W.mg_of X G aC_Say,
    cl_Say := ⟨pg_Say, hd_Say, po_Say, sa_Say⟩,
    c_Agree := C_Agree,
    g_Agree := PySem.W.mg_of X G aC_Agree,
    cl_Agree := ⟨pg_Agree, hd_Agree, po_Agree, sa_Agree⟩,
    a_l_state := f_l_state,
    d_l_state := _,
    F_l_state := F_l_state,
    b_l_state := b_l_state,
    g_l_state := PySem.W.mg_of X G a_l_state,
    a_l_draw := f_l_draw,
    d_l_draw := _,
    F_l_draw := F_l_draw,
    b_l_draw := b_l_draw,
    g_l_draw := PySem.W.mg_of X G a_l_draw,
    a_l_alike := f_l_alike,
    d_l_alike := _,
    F_l_alike := F_l_alike,
    b_l_alike := b_l_alike,
    g_l_alike := PySem.W.mg_of X G a_l_alike,
    a_l_letter := f_l_letter,
    d_l_letter := _,
    F_l_letter := F_l_letter,
    b_l_letter := b_l_letter,
    g_l_letter := PySem.W.mg_of X G a_l_letter,
    a_l_made := f_l_made,
    d_l_made := _,
    F_l_made := F_l_made,
    b_l_made := b_l_made,
    g_l_made := PySem.W.mg_of X G a_l_made,
    a_l_bent := f_l_bent,
    d_l_bent := _,
    F_l_bent := F_l_bent,
    b_l_bent := b_l_bent,
    g_l_bent := PySem.W.mg_of X G a_l_bent,
    a_l_right := f_l_right,
    d_l_right := _,
    F_l_right := F_l_right,
    b_l_right := b_l_right,
    g_l_right := PySem.W.mg_of X G a_l_right,
    a_Say___init__ := f_Say___init__,
    d_Say___init__ := _,
    F_Say___init__ := F_Say___init__,
    b_Say___init__ := b_Say___init__,
    m_Say := ⟨mk_Say, a_Say___init__, i_Say___init__, kc_Say⟩,
    kb_Say___init___far_number_root := kbn_of F_Say___init__ (fun kV doc pm an cdv ct us ws l1 l2 => match us, l1, ws, l2 with | [_], _, [_, _, _], _ => rfl) perm_rel_1_2_0,
    a_Say___eq__ := f_Say___eq__,
    d_Say___eq__ := _,
    F_Say___eq__ := F_Say___eq__,
    b_Say___eq__ := b_Say___eq__,
    me_Say___eq__ := ⟨a_Say___eq__, i_Say___eq__, k_Say___eq__⟩,
    a_Say_told := f_Say_told,
    d_Say_told := _,
    F_Say_told := F_Say_told,
    b_Say_told := b_Say_told,
    me_Say_told := ⟨a_Say_told, i_Say_told, k_Say_told⟩,
    a_Agree___init__ := f_Agree___init__,
    d_Agree___init__ := _,
    F_Agree___init__ := F_Agree___init__,
    b_Agree___init__ := b_Agree___init__,
    m_Agree := ⟨mk_Agree, a_Agree___init__, i_Agree___init__, kc_Agree⟩,
    kb_Agree___init___number := kbn_of F_Agree___init__ (fun kV doc pm an cdv ct us ws l1 l2 => match us, l1, ws, l2 with | [_], _, [_], _ => rfl) perm_rel_0,
    a_Agree___eq__ := f_Agree___eq__,
    d_Agree___eq__ := _,
    F_Agree___eq__ := F_Agree___eq__,
    b_Agree___eq__ := b_Agree___eq__,
    me_Agree___eq__ := ⟨a_Agree___eq__, i_Agree___eq__, k_Agree___eq__⟩,
    a_Agree_told := f_Agree_told,
    d_Agree_told := _,
    F_Agree_told := F_Agree_told,
    b_Agree_told := b_Agree_told,
    me_Agree_told := ⟨a_Agree_told, i_Agree_told, k_Agree_told⟩,
    a_law := _,
    d_law := _,
    F_law := F_law,
    b_law := b_law,
    g_law := PySem.W.mg_of X G a_law,
    e_Say := ⟨a_Say___eq__, i_Say___eq__, en_Say, eo_Say, all7 es_Say_NoneType es_Say_bool es_Say_int es_Say_str es_Say_list es_Say_tuple es_Say_dict⟩,
    q_Say := ⟨qc_Say, qg_Say, qt_Say, qm_Say, all7 qk_Say_NoneType qk_Say_bool qk_Say_int qk_Say_str qk_Say_list qk_Say_tuple qk_Say_dict⟩,
    e_Agree := ⟨a_Agree___eq__, i_Agree___eq__, en_Agree, eo_Agree, all7 es_Agree_NoneType es_Agree_bool es_Agree_int es_Agree_str es_Agree_list es_Agree_tuple es_Agree_dict⟩,
    q_Agree := ⟨qc_Agree, qg_Agree, qt_Agree, qm_Agree, all7 qk_Agree_NoneType qk_Agree_bool qk_Agree_int qk_Agree_str qk_Agree_list qk_Agree_tuple qk_Agree_dict⟩,
    kt_Say_Letter := kt_Say_Letter,
    kt_Agree_Letter := kt_Agree_Letter,
    kt_Say_Agree := kt_Say_Agree,
    kt_Agree_Say := kt_Agree_Say,
    sb_Say_Agree := sb_Say_Agree,
    sb_Agree_Say := sb_Agree_Say,
    n_Say_number := na_Say_number,
    n_Say_root := na_Say_root,
    n_Say_far := na_Say_far,
    n_Agree_number := na_Agree_number,
    z_abs := PySem.W.mg_none_of X G z_abs,
    z_len := PySem.W.mg_none_of X G z_len,
    z_range := PySem.W.mg_none_of X G z_range,
    z_list := PySem.W.mg_none_of X G z_list,
    z_all := PySem.W.mg_none_of X G z_all,
    z_isinstance := PySem.W.mg_none_of X G z_isinstance,
    z_tuple := PySem.W.mg_none_of X G z_tuple,
    z_int := PySem.W.mg_none_of X G z_int,
    z_bool := PySem.W.mg_none_of X G z_bool,
    z_str := PySem.W.mg_none_of X G z_str }
  exact ⟨_, fun s v => .of_eq rfl, fun base _ _ => ok_law T⟩
end K15
open PySem PySem.W PyProof.Rows
set_option maxHeartbeats 0 in
theorem PySem.Challenge.cw_ringless_k15_letters_told_holds : PySem.Challenge.rw_ringless_k15_letters_told.Holds := by
  w_on; o_law; k_head; (case hw => w_witness2)
  k_fill
  refine MyG.walk_ofG (l := PySem.Challenge.rw_ringless_k15_letters_told) (n := 63) (k := 6) (x := "_law_script") (CX := fun _ => L2.CX0) (sp := fun w => K15.sp_law _) rfl (by decide) rfl ⟨rfl, by decide, by decide⟩ (fun w h Y => PySem.W.kIn_of Y) ?F (fun w H a ns hl _ hS => K15.law_start _ _ _ _ hl hS) (fun _ _ _ _ _ h => h)
  case F =>
    intro w mg fa h KX G hmg
    refine' K15.all_mk KX G hmg ?aC_Letter ?pg_Letter ?hd_Letter ?po_Letter ?sa_Letter ?mk_Letter ?kc_Letter ?aC_Say ?pg_Say ?hd_Say ?po_Say ?sa_Say ?mk_Say ?kc_Say ?aC_Agree ?pg_Agree ?hd_Agree ?po_Agree ?sa_Agree ?mk_Agree ?kc_Agree ?a_l_state ?l_l_state ?c_l_state ?k_l_state ?a_l_draw ?l_l_draw ?c_l_draw ?k_l_draw ?a_l_alike ?l_l_alike ?c_l_alike ?k_l_alike ?a_l_letter ?l_l_letter ?c_l_letter ?k_l_letter ?a_l_made ?l_l_made ?c_l_made ?k_l_made ?a_l_bent ?l_l_bent ?c_l_bent ?k_l_bent ?a_l_right ?l_l_right ?c_l_right ?k_l_right ?a_Say___init__ ?i_Say___init__ ?l_Say___init__ ?c_Say___init__ ?k_Say___init__ ?a_Say___eq__ ?i_Say___eq__ ?l_Say___eq__ ?c_Say___eq__ ?k_Say___eq__ ?a_Say_told ?i_Say_told ?l_Say_told ?c_Say_told ?k_Say_told ?a_Agree___init__ ?i_Agree___init__ ?l_Agree___init__ ?c_Agree___init__ ?k_Agree___init__ ?a_Agree___eq__ ?i_Agree___eq__ ?l_Agree___eq__ ?c_Agree___eq__ ?k_Agree___eq__ ?a_Agree_told ?i_Agree_told ?l_Agree_told ?c_Agree_told ?k_Agree_told ?a_law ?l_law ?c_law ?k_law ?en_Say ?eo_Say ?es_Say_NoneType ?es_Say_bool ?es_Say_int ?es_Say_str ?es_Say_list ?es_Say_tuple ?es_Say_dict ?qc_Say ?qg_Say ?qt_Say ?qm_Say ?qk_Say_NoneType ?qk_Say_bool ?qk_Say_int ?qk_Say_str ?qk_Say_list ?qk_Say_tuple ?qk_Say_dict ?en_Agree ?eo_Agree ?es_Agree_NoneType ?es_Agree_bool ?es_Agree_int ?es_Agree_str ?es_Agree_list ?es_Agree_tuple ?es_Agree_dict ?qc_Agree ?qg_Agree ?qt_Agree ?qm_Agree ?qk_Agree_NoneType ?qk_Agree_bool ?qk_Agree_int ?qk_Agree_str ?qk_Agree_list ?qk_Agree_tuple ?qk_Agree_dict ?kt_Say_Letter ?kt_Agree_Letter ?kt_Say_Agree ?kt_Agree_Say ?sb_Say_Agree ?sb_Agree_Say ?na_Say_number ?na_Say_root ?na_Say_far ?na_Agree_number ?z_abs ?z_len ?z_range ?z_list ?z_all ?z_isinstance ?z_tuple ?z_int ?z_bool ?z_str
    (case aC_Letter => k_is)
    (case pg_Letter => k_is)
    (case hd_Letter => k_is)
    (case po_Letter => k_is)
    (case sa_Letter => k_is)
    (case mk_Letter => k_is)
    (case kc_Letter => k_is)
    (case aC_Say => k_is)
    (case pg_Say => k_is)
    (case hd_Say => k_is)
    (case po_Say => k_is)
    (case sa_Say => k_is)
    (case mk_Say => k_is)
    (case kc_Say => k_is)
    (case aC_Agree => k_is)
    (case pg_Agree => k_is)
    (case hd_Agree => k_is)
    (case po_Agree => k_is)
    (case sa_Agree => k_is)
    (case mk_Agree => k_is)
    (case kc_Agree => k_is)
    (case a_l_state => k_is)
    (case l_l_state => k_is)
    (case c_l_state => k_is)
    (case k_l_state => k_is)
    (case a_l_draw => k_is)
    (case l_l_draw => k_is)
    (case c_l_draw => k_is)
    (case k_l_draw => k_is)
    (case a_l_alike => k_is)
    (case l_l_alike => k_is)
    (case c_l_alike => k_is)
    (case k_l_alike => k_is)
    (case a_l_letter => k_is)
    (case l_l_letter => k_is)
    (case c_l_letter => k_is)
    (case k_l_letter => k_is)
    (case a_l_made => k_is)
    (case l_l_made => k_is)
    (case c_l_made => k_is)
    (case k_l_made => k_is)
    (case a_l_bent => k_is)
    (case l_l_bent => k_is)
    (case c_l_bent => k_is)
    (case k_l_bent => k_is)
    (case a_l_right => k_is)
    (case l_l_right => k_is)
    (case c_l_right => k_is)
    (case k_l_right => k_is)
    (case a_Say___init__ => k_is)
    (case i_Say___init__ => k_is)
    (case l_Say___init__ => k_is)
    (case c_Say___init__ => k_is)
    (case k_Say___init__ => k_is)
    (case a_Say___eq__ => k_is)
    (case i_Say___eq__ => k_is)
    (case l_Say___eq__ => k_is)
    (case c_Say___eq__ => k_is)
    (case k_Say___eq__ => k_is)
    (case a_Say_told => k_is)
    (case i_Say_told => k_is)
    (case l_Say_told => k_is)
    (case c_Say_told => k_is)
    (case k_Say_told => k_is)
    (case a_Agree___init__ => k_is)
    (case i_Agree___init__ => k_is)
    (case l_Agree___init__ => k_is)
    (case c_Agree___init__ => k_is)
    (case k_Agree___init__ => k_is)
    (case a_Agree___eq__ => k_is)
    (case i_Agree___eq__ => k_is)
    (case l_Agree___eq__ => k_is)
    (case c_Agree___eq__ => k_is)
    (case k_Agree___eq__ => k_is)
    (case a_Agree_told => k_is)
    (case i_Agree_told => k_is)
    (case l_Agree_told => k_is)
    (case c_Agree_told => k_is)
    (case k_Agree_told => k_is)
    (case a_law => k_is)
    (case l_law => k_is)
    (case c_law => k_is)
    (case k_law => k_is)
    (case en_Say => k_is)
    (case eo_Say => k_is)
    (case es_Say_NoneType => k_is)
    (case es_Say_bool => k_is)
    (case es_Say_int => k_is)
    (case es_Say_str => k_is)
    (case es_Say_list => k_is)
    (case es_Say_tuple => k_is)
    (case es_Say_dict => k_is)
    (case qc_Say => k_is)
    (case qg_Say => k_is)
    (case qt_Say => k_is)
    (case qm_Say => k_is)
    (case qk_Say_NoneType => kit_is)
    (case qk_Say_bool => kit_is)
    (case qk_Say_int => kit_is)
    (case qk_Say_str => kit_is)
    (case qk_Say_list => kit_is)
    (case qk_Say_tuple => kit_is)
    (case qk_Say_dict => kit_is)
    (case en_Agree => k_is)
    (case eo_Agree => k_is)
    (case es_Agree_NoneType => k_is)
    (case es_Agree_bool => k_is)
    (case es_Agree_int => k_is)
    (case es_Agree_str => k_is)
    (case es_Agree_list => k_is)
    (case es_Agree_tuple => k_is)
    (case es_Agree_dict => k_is)
    (case qc_Agree => k_is)
    (case qg_Agree => k_is)
    (case qt_Agree => k_is)
    (case qm_Agree => k_is)
    (case qk_Agree_NoneType => kit_is)
    (case qk_Agree_bool => kit_is)
    (case qk_Agree_int => kit_is)
    (case qk_Agree_str => kit_is)
    (case qk_Agree_list => kit_is)
    (case qk_Agree_tuple => kit_is)
    (case qk_Agree_dict => kit_is)
    (case kt_Say_Letter => kit_is)
    (case kt_Agree_Letter => kit_is)
    (case kt_Say_Agree => kit_is)
    (case kt_Agree_Say => kit_is)
    (case sb_Say_Agree => k_is)
    (case sb_Agree_Say => k_is)
    (case na_Say_number => k_is)
    (case na_Say_root => k_is)
    (case na_Say_far => k_is)
    (case na_Agree_number => k_is)
    (case z_abs => k_is)
    (case z_len => k_is)
    (case z_range => k_is)
    (case z_list => k_is)
    (case z_all => k_is)
    (case z_isinstance => k_is)
    (case z_tuple => k_is)
    (case z_int => k_is)
    (case z_bool => k_is)
    (case z_str => k_is)
