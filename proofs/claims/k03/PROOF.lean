import PyProof.Rows.All
import Wide.All
import OpenK.AllK
import Wide.FinOn
import HandS.ForMost
import HandS.Evl
import HandS.MakeKw
import HandS.MakeKwOnly
import HandS.IsInst
import PyProof.ReprRoads
import HandS.Zip
import PyProof.Rows.SetFrom
import PyProof.ReprLen
import HandS.OwnEq
import PyProof.NeKinds
import HandS.Style
import KE.KSortedM
import HandS.Text
import HandS.StrMore
import HandS.FStr
import PyProof.StrBlock2
import PyProof.StrLaws
import HandS.Flow
import HandS.TupAny
import HandS.Exc
import HandS.ExcIs
import HandS.ExcField
import KE.KExcIs
import HandS.NestedK
import HandS.ExcInit
import KE.KExcSuper
import HandS.WordsExc
import HandS.SetFor
import HandS.DictComp
import HandS.Walk
import HandS.Conv
import KE.RegKSuper
import PySem.Challenge.RW_ringless_k03_strange_doors
set_option Elab.async false
set_option linter.all false
set_option maxRecDepth 100000
set_option maxHeartbeats 2000000
/-! My own additions to the hand layer: defs that know that no repr is under way (so that they may call repr), repr of data, a method called by keywords alone. -/
namespace MyG
open PySem PySem.Spec PyProof.Rows L2

/-- a promise that is kept where no guarded call is under way -/
structure FnOkG (P : Program) (w : World) (K : PySem.W.Frag) (mg : Str → Option Value) (base : Heap) (CX : CXT) (k : Nat) (f : Addr) (fd : FuncData) (ps : List Str) (sp : Sp) : Prop where
  lenG : ∀ vs H Q E, sp vs H Q E → vs.length = ps.length
  runG : ∀ (A : Around) (fr : List Env) (s : Shared) (H : Hp) (as : Args) (us : List Value) (vs : List V) (Q : VK) (E : XK), A.guards = some [] → Room k A → Env0 P w K mg base A fr s H →
    BindsTo s fd as (ps.zip us) → Vals vs us → sp vs H Q E → codeAny (model P w) A (.call (.ref f) as) (CR CX fr P w H s Q E) s

section
variable {P : Program} {w : World} {K : PySem.W.Frag} {mg : Str → Option Value} {base : Heap} {CX : CXT} {k : Nat} {f : Addr} {fd : FuncData} {ps N : List Str} {sp : Sp} {x q : Str} {st : Stmt}
theorem FnOkG.of (F : FnOk P w K mg base CX k f fd ps sp) : FnOkG P w K mg base CX k f fd ps sp :=
  ⟨F.len, fun A fr s H as us vs Q E _ => F.run A fr s H as us vs Q E⟩

/-- a def's body, where no guarded call is under way: for defs from which nothing is raised -/
theorem okG (F : Fun K x q st f fd) (S : FnScope N ps (defScope st)) (hlen : ∀ vs H Q E, sp vs H Q E → vs.length = ps.length)
    (hbody : ∀ (cdv : Value) (A : Around) (fr : List Env) (s : Shared) (H : Hp) (vs : List V) (Q : VK) (E : XK), (A.deeper (envOfC q (defScope st) s.heap.objs.size f cdv)).guards = some [] →
      Room k (A.deeper (envOfC q (defScope st) s.heap.objs.size f cdv)) → sp vs H Q E →
      ∃ t, PSs (cxOf CX0 P w K mg base N q (defScope st) f cdv A fr s H E).nox (defBody st) t ∧ t { nx := fun _ H' => Q .non H', rt := Q } (start N vs) H) :
    FnOkG P w K mg base CX0 (k + 1) f fd ps sp := by
  obtain ⟨oc, od, kV, doc, pm, an, cdv, ct, osl, hfd, hlook, hcode⟩ := F.ex
  subst hfd
  constructor
  · exact hlen
  intro A fr s H as us vs Q E hgd room e0 hbind rel hs
  have kin : K.In s.heap := e0.mod.kin.keeps (fun b o h => (e0.bs b o h).1)
  have nol : s.heap.NoLimit := e0.mod.nolimit.keeps (fun b o h => (e0.bs b o h).1)
  have params : ∀ y ∈ ps.zip us, (defScope st).names.lookup y.1 = some .local ∨ ((defScope st).names.lookup y.1 = some .cell ∧ ((cellsFrom (s.heap.objs.size + 1) (defScope st).names []).lookup y.1).isSome = true) := by
    intro y hy
    have hy1 : y.1 ∈ ps := (List.of_mem_zip (show (y.1, y.2) ∈ ps.zip us from hy)).1
    cases S.par y.1 hy1 with
    | inl h => exact Or.inl h
    | inr h => exact Or.inr ⟨h, PySem.W.cellsFrom_some _ _ _ (Or.inl h)⟩
  refine codeAny_call_function room.depth (kin _ _ hlook) rfl S.co S.gen rfl (PySem.W.codeRec_of kin hcode) (hbind _ _ _ _ ?_)
  refine wpAny_newFunctionEnv_cells S.kind params (fun env henv s1 hin => ?_)
  subst henv
  obtain ⟨t, hterm, hread⟩ := hbody cdv A fr s H vs Q E hgd (room.deeper _) hs
  have inv := inv_start (CX := CX0) (E := E) S room.hd e0 (hlen _ _ _ _ hs) rel hin
  refine ⟨nol.keeps hin.toInCall.keep, codeAny_func (wpAny_mono (hterm.nox.run [] s1 (start N vs) H _ inv hread) ?_ (fun _ _ h => h))⟩
  intro fl s' hsp
  match fl, hsp with
  | .ret u, hsp =>
    obtain ⟨v, σ', H', J, rv, hq⟩ := hsp
    exact ⟨v, H', J.os, J.bare, J.base, J.hok, rv, hq⟩
  | .next, hsp =>
    obtain ⟨σ', H', J, hq⟩ := hsp
    exact ⟨V.non, H', J.os, J.bare, J.base, J.hok, rfl, hq⟩
  | .brk, hsp => exact hsp.choose_spec.choose_spec.2.elim
  | .cont, hsp => exact hsp.choose_spec.choose_spec.2.elim
end

section
variable {X : Cx} {CX : CXT} {k : Nat} {f C : Addr} {fd : FuncData} {ps ks : List Str} {sp : Sp} {dvs : List V} {ds : List Value} {E : XK} {x m : Str} {p pos apos : Pos} {e o : Expr} {es : List Expr} {ta : TE} {t tk : TA} {kws : List Keyword}
  {g : List Value → List Value → List Value} {gV : List V → List V → List V}
theorem runG_fn {pins : List (Addr × Obj)} {σ : L2.St} {H : Hp} {s : Shared} {Q : VK} {us : List Value} {vs : List V} (F : FnOkG X.prog X.w X.K X.mg X.base CX k f fd ps sp) (hgd : X.A.guards = some []) (room : Room k X.A) (hb : Binds X.K fd ps ds)
    (hd : Vals dvs ds) (hx : Passes CX X E) (I : Inv X pins σ H s) (r : Vals vs us) (h : sp (vs ++ dvs) H Q E) : wpAny (model X.prog X.w) X.A (call (.ref f) us) (EP X pins σ Q) X.xe s := by
  have rel : Vals (vs ++ dvs) (us ++ ds) := r.append hd
  have hlen : (us ++ ds).length = ps.length := rel.length.symm.trans (F.lenG _ _ _ _ h)
  refine wpAny_call (codeAny_mono (F.runG X.A X.stack s H ⟨us, []⟩ (us ++ ds) (vs ++ dvs) Q E hgd room I.env0 (hb s us I.kIn hlen) rel h) (fun r s' hq => ?_))
  match r, hq with
  | .error e, hq => exact hx pins σ H s e s' I hq
  | .ok (.ret u), hq => exact I.after hq
/-- f(e, ..) -/
theorem pe_callG (F : FnOkG X.prog X.w X.K X.mg X.base CX k f fd ps sp) (hgd : X.A.guards = some []) (room : Room k X.A) (hg : Gl X x) (hm : X.mg x = some (.ref f)) (hk : PySem.W.keepIn X.K (.ref f) = true) (hb : Binds X.K fd ps ds) (hd : Vals dvs ds)
    (hx : Passes CX X E) (ha : PA X (e :: es) t) (hdb : (x == ("__debug__" : Str)) = false := by decide) (he : starEach (e :: es) X.env = (false, eval e X.env) :: starEach es X.env := by rfl)
    (hpl : (backTo pos (starEach es X.env)).any (·.1) = false := by rfl) : PE X (.Call (.Name x p) (e :: es) [] pos) (tCall sp dvs E t) := by
  constructor
  intro pins s σ H Q I h
  refine wpAny_Call_Name_kw (ld_glob I hg hm (PySem.W.callWith_K (h₀ := X.base) I.ok.mod.kin hk (thn (ha.run pos pins s σ H _ I h) ?_) he hpl) hdb)
  rintro us s1 ⟨vs, H1, I1, r, hq⟩
  exact ⟨I1.kIn, runG_fn F hgd room hb hd hx I1 r hq⟩

/-- o.m(k = v, ..): keywords alone -/
def tMethK (C : Addr) (m : Str) (n : Nat) (sp : Sp) (gV : List V → List V → List V) (E : XK) (ta : TE) (tk : TA) : TE := fun σ H Q => ta σ H fun x H1 => ∃ a dx fs, x = .ref a ∧ H1 a = some (.ins C dx fs) ∧ fs.lookup m = none ∧
  tk σ H1 fun zs H2 => zs.length = n ∧ sp (gV [x] zs) H2 Q E
theorem pe_methK0 {pl : Sem Bool} (he : PE X o ta) (c : Cls X.K C) (hm : Meth X.K C m f) (F : FnOk X.prog X.w X.K X.mg X.base CX k f fd ps sp) (room : Room k X.A) (hb : KBn X.K fd ps 1 ks g gV) (hx : Passes CX X E) (hkw : PK X kws tk)
    (hall : (backToKw pos (keywordEach kws X.env)).all (·.1.isSome) = true := by rfl) (hks : (backToKw pos (keywordEach kws X.env)).filterMap (·.1) = ks := by rfl)
    (hpl : ((backTo pos (starEach [] X.env)).any (·.1) || (backToKw pos (keywordEach kws X.env)).any (·.1.isNone)) = false := by rfl)
    (ht : eval (.Call (.Attribute o m apos) [] kws pos) X.env = (do
      let ov ← eval o X.env
      standAt apos.atName
      let (f, first) ← holding [ov] (getMethod ov m pl)
      callWith pos f first (backTo pos (starEach [] X.env)) (backToKw pos (keywordEach kws X.env))) := by rfl) :
    PE X (.Call (.Attribute o m apos) [] kws pos) (tMethK C m ks.length sp gV E ta tk) := by
  constructor
  intro pins s σ H Q I h
  refine PySem.W.methodCall_KW (pl := pl) (thn (he.run pins s σ H _ I h) ?_) ht
  rintro u s1 ⟨x, H1, I1, rx, a, dx, fs, ex, ea, l, hq⟩
  subst ex
  obtain rfl : u = Value.ref a := rx
  refine getmeth_ok I1 ea c hm l (PySem.W.callWith_KW0 (h₀ := X.base) I1.ok.mod.kin hm.kp hall (thn (hkw.run pos pins s1 σ H1 _ I1 hq) ?_) hpl)
  rintro ws s2 ⟨zs, H2, I2, rz, l2, hs⟩
  refine ⟨I2.kIn, ?_⟩
  rw [hks]
  exact run_fnN (us := [.ref a]) (vs := [.ref a]) F room hb hx I2 (.cons rfl .nil) rz rfl l2 hs
end

/-- how keywords bind, for a def without defaults -/
theorem kbn_of {K : PySem.W.Frag} {x q : Str} {st : Stmt} {f : Addr} {fd : FuncData} {ps ks : List Str} {n : Nat} {g : List Value → List Value → List Value} {gV : List V → List V → List V} (F : Fun K x q st f fd)
    (h : ∀ (kV doc pm : Value) (an : Option Addr) (cdv ct : Value) (us ws : List Value), us.length = n → ws.length = ks.length → bindArgs (PySem.W.fnOf x q (defArgs st) (defBody st) (defScope st) .none kV doc pm an cdv ct) ⟨us, ks.zip ws⟩ = pure (ps.zip (g us ws)))
    (rel : ∀ {vs : List V} {us : List Value} {zs : List V} {ws : List Value}, Vals vs us → Vals zs ws → Vals (gV vs zs) (g us ws)) : KBn K fd ps n ks g gV := by
  obtain ⟨oc, od, kV, doc, pm, an, cdv, ct, osl, hfd, hlook, hcode⟩ := F.ex
  subst hfd
  exact ⟨fun s us ws _ l1 l2 => .of_eq (h kV doc pm an cdv ct us ws l1 l2), rel⟩

/-! ### repr of data -/
section
variable {X : Cx}
def rReprD (K : PySem.W.Frag) : List V → Hp → VK → Prop := fun xs H Q => ∃ x d, xs = [x] ∧ Dp K H x d ∧ d.showable = true ∧ d.hasDict = false ∧ d.depth ≤ 40 ∧ d.shown.length ≤ sizeLine ∧ Q (.str d.shown) H
theorem call_reprD {k : Nat} (hgd : X.A.guards = some []) (room : Room k X.A) : CallR X (.builtin "repr") (rReprD X.K) := by
  intro pins s σ H xs us Q I r h
  obtain ⟨x, d, rfl, hd, hs, hnd, hdep, hsz, hq⟩ := h
  obtain ⟨u, rfl, rx⟩ := vals1 r
  have un := room.units
  have fin : ∀ h' v tk, (∀ b o, s.heap.get? b = some o → h'.get? b = some o) → EP X pins σ Q (.str d.shown v) { s with heap := h', toks := tk } := fun h' v tk kp => ⟨.str d.shown, H, I.kept kp, ⟨_, rfl⟩, hq⟩
  obtain ⟨as, rd⟩ := Dp.reads I d x u hd rx
  cases rd with
  | none => exact PySem.P.repr_of_none (fin s.heap _ _ fun _ _ e => e)
  | bool b => cases b <;> exact PySem.P.repr_of_bool (fin s.heap _ _ fun _ _ e => e)
  | int i t =>
    refine PySem.P.repr_of_int (by simpa [PyData.showable] using hs) (fin s.heap _ _ fun _ _ e => e)
  | str y t => exact PySem.P.repr_of_str (fin s.heap _ _ fun _ _ e => e) hsz
  | list h1 h2 h3 h4 => exact repr_of_reads' (.list h1 h2 h3 h4) hs (fun z => by rw [hnd] at z; cases z) hgd (by omega) (fun _ _ e => e) fin hsz
  | tuple h1 h2 h3 h4 => exact repr_of_reads' (.tuple h1 h2 h3 h4) hs (fun z => by rw [hnd] at z; cases z) hgd (by omega) (fun _ _ e => e) fin hsz
  | dict h1 h2 h3 h4 h5 => simp [PyData.hasDict] at hnd
end
end MyG

/-! ### the law's own call, and the end of a row -/
namespace MyG
open PySem PySem.Spec PyProof.Rows L2
section
variable {P : Program} {w : World} {K : PySem.W.Frag} {mg mb : Str → Option Value} {CX : CXT} {k : Nat} {fa a : Addr} {fd : FuncData} {x : Str} {sp : Sp} {s₁ : Shared} {vs : List Value} {ns : List Int}
/-- from one abstract heap that knows at most the script -/
theorem lawG_at (H : Hp) (KX : K.In s₁.heap) (hns : s₁.heap.Ns mainGlobals mg) (hb : s₁.heap.Ns builtinsNs mb) (hbb : ∀ x : Str, x ≠ "__name__" → mb x = bootBuiltins x) (hlim : s₁.heap.NoLimit) (hgen : s₁.gens = #[])
    (ha : s₁.heap.get? a = some { cls := .type "list", data := .seq vs.toArray }) (room : Room k callerA)
    (F : ∀ base : Heap, K.In base → base.Ns mainGlobals mg → FnOkG P w K mg base CX k fa fd [x] sp) (hbind : ∀ (s : Shared) (u : Value), BindsTo s fd ⟨[u], []⟩ [(x, u)])
    (hsp : sp [.ref a] H (fun v _ => v = .bl true) fun _ _ _ => False) (hCX : ∀ e s', CX [] H s₁ (fun _ _ _ => False) e s' → False)
    (only : Only H) (hok : HOk P w H s₁.heap) (hA : ∀ b, H b ≠ none → b = a) (hK : H a ≠ none → K.lookup a = none) :
    codeAny (model P w) callerA (.call (.ref fa) ⟨[.ref a], []⟩) (fun r s' => r = .ok (.ret (.bool true)) ∧ OldK s₁.heap s'.heap ∧ s'.os = s₁.os ∧ AllBare s'.gens) s₁ := by
  have free : ∀ b : Addr, b ≠ a → H b = none := fun b hb => by
    cases e : H b with
    | none => rfl
    | some u => exact absurd (hA b (by rw [e]; exact fun z => nomatch z)) hb
  have hid : ∀ {b : Addr} {o : Obj}, s₁.heap.get? b = some o → H b = none → (hidT s₁.heap H).get? b = some o := fun h1 h2 => hidT_get h1 h2
  have dictFree : ∀ {b : Addr} {o : Obj} {es : Array DictEntry} {ep : Nat}, s₁.heap.get? b = some o → o.data = .dict es ep → H b = none := by
    intro b o es ep h1 h2
    by_cases hb : b = a
    · rw [hb, ha] at h1
      obtain rfl := Option.some.inj h1
      exact absurd h2 (fun z => nomatch z)
    · exact free b hb
  have nsH : ∀ {b : Addr} {m : Str → Option Value}, s₁.heap.Ns b m → (hidT s₁.heap H).Ns b m := by
    rintro b m ⟨o, es, ep, h1, h2, h3⟩
    exact ⟨o, es, ep, hid h1 (dictFree h1 h2), h2, h3⟩
  have kin : K.In (hidT s₁.heap H) := by
    intro b o h1
    refine hid (KX b o h1) ?_
    by_cases hb : b = a
    · cases e : H a with
      | none => rw [hb]; exact e
      | some u =>
        have z := hK (by rw [e]; exact fun z => nomatch z)
        rw [hb, z] at h1
        cases h1
    · exact free b hb
  have md : Mod K mg (hidT s₁.heap H) := by
    obtain ⟨mc, l1, l2⟩ := hlim
    exact ⟨kin, nsH hns, ⟨mb, nsH hb, hbb⟩, ⟨mc, nsH l1, l2⟩⟩
  have env : Env0 P w K mg (hidT s₁.heap H) callerA [] s₁ H := { frames := rfl, mod := md, bs := fun b o h1 => of_hidT h1, bsz := Nat.le_of_eq (hidT_size _ _), funs := trivial, frf := fun b hb => (List.not_mem_nil hb).elim, hok := hok, bare := .of_eq hgen }
  refine codeAny_mono ((F _ kin (nsH hns)).runG callerA [] s₁ H ⟨[.ref a], []⟩ [.ref a] [.ref a] _ _ rfl room env (hbind s₁ (.ref a)) (.cons rfl .nil) hsp) ?_
  intro r s' hr
  match r, hr with
  | .error e, hr => exact (hCX e s' hr).elim
  | .ok (.ret u), hr =>
    obtain ⟨v, H', hos, hbare, un, hok', rv, hv⟩ := hr
    obtain rfl : v = V.bl true := hv
    obtain rfl : u = Value.bool true := rv
    refine ⟨rfl, OldK.of_keep ?_, hos, hbare⟩
    intro b o h1
    rcases only b with z | ⟨ob, xs, z⟩
    · exact un.keep b o h1 z (fun q => (List.not_mem_nil q).elim) (fun q => (List.not_mem_nil q).elim)
    · have e1 := (hok b _ z).1
      have e2 := (hok' b _ (un.frzs b ob _ z)).1
      rw [h1] at e1
      rw [Option.some.inj e1]
      exact e2
theorem law_callG (KX : K.In s₁.heap) (hns : s₁.heap.Ns mainGlobals mg) (hb : s₁.heap.Ns builtinsNs mb) (hbb : ∀ x : Str, x ≠ "__name__" → mb x = bootBuiltins x) (hlim : s₁.heap.NoLimit) (hgen : s₁.gens = #[])
    (ha : s₁.heap.get? a = some { cls := .type "list", data := .seq vs.toArray }) (hi : IntsAre vs ns) (hl : ns.length ≤ sizeLine) (room : Room k callerA)
    (F : ∀ base : Heap, K.In base → base.Ns mainGlobals mg → FnOkG P w K mg base CX k fa fd [x] sp) (hbind : ∀ (s : Shared) (u : Value), BindsTo s fd ⟨[u], []⟩ [(x, u)])
    (hsp : ∀ H : Hp, Only H → SqL K H a (ns.map V.int) → sp [.ref a] H (fun v _ => v = .bl true) fun _ _ _ => False) (hCX : ∀ H e s', CX [] H s₁ (fun _ _ _ => False) e s' → False) :
    codeAny (model P w) callerA (.call (.ref fa) ⟨[.ref a], []⟩) (fun r s' => r = .ok (.ret (.bool true)) ∧ OldK s₁.heap s'.heap ∧ s'.os = s₁.os ∧ AllBare s'.gens) s₁ := by
  have rv := vals_ints hi
  have lenV := hi.length
  cases hk : K.lookup a with
  | some o =>
    have e1 := KX a o hk
    rw [ha] at e1
    obtain rfl := Option.some.inj e1
    have only : Only (fun _ => none) := fun b => .inl rfl
    refine lawG_at (fun _ => none) KX hns hb hbb hlim hgen ha room F hbind (hsp _ only ?_) (hCX _) only (fun b u z => nomatch z) (fun b z => absurd rfl z) (fun z => absurd rfl z)
    exact .inr ⟨_, vs.toArray, _, hk, rfl, rfl, rfl, by rw [List.size_toArray, lenV]; exact hl, by simpa using rv⟩
  | none =>
    have at_a : ∀ {o : HO}, (fun b => if b = a then some o else none : Hp) a = some o := if_pos rfl
    have off_a : ∀ {o : HO} {b : Addr}, b ≠ a → (fun b => if b = a then some o else none : Hp) b = none := fun h => if_neg h
    have only : Only (fun b => if b = a then some (.frz { cls := .type "list", data := .seq vs.toArray } (.lst (ns.map V.int))) else none) := fun b => by
      by_cases hb : b = a
      · exact .inr ⟨_, _, by rw [hb]; exact at_a⟩
      · exact .inl (off_a hb)
    refine lawG_at _ KX hns hb hbb hlim hgen ha room F hbind (hsp _ only (.inl (.inr ⟨_, at_a⟩))) (hCX _) only ?_ ?_ (fun _ => hk)
    · intro b u z
      by_cases hb : b = a
      · subst hb
        obtain rfl := Option.some.inj (at_a.symm.trans z)
        exact ⟨ha, by rw [List.length_map]; exact hl, vs, _, rv, ha⟩
      · exact absurd ((off_a hb).symm.trans z) (fun q => nomatch q)
    · intro b z
      by_cases hb : b = a
      · exact hb
      · exact absurd (off_a hb) z
end
theorem walk_ofG {l : PySem.W.OpenLaw} {n k : Nat} {q : Program} {loose : List Str} {XP : (Str → Option Value) → Heap → Prop} {YP : World → Heap → Prop} {d : DefRec} {K : Params → PySem.W.Frag} {CX : World → CXT} {sp : World → Sp} {x : Str}
    (hn : l.most = some n) (hn2 : n ≤ sizeLine) (hdf : d.params.defaults = []) (room : Room k callerA) (hY : ∀ (w : World) (h : Heap), YP w h → (K w.params).In h)
    (F : ∀ (w : World) (mg : Str → Option Value) (fa : Addr) (h : Heap), (K w.params).In h → h.Ns mainGlobals mg → mg d.name = some (.ref fa) →
      ∃ fd : FuncData, (∀ (s : Shared) (u : Value), BindsTo s fd ⟨[u], []⟩ [(x, u)]) ∧ ∀ base : Heap, (K w.params).In base → base.Ns mainGlobals mg → FnOkG l.prog w (K w.params) mg base (CX w) k fa fd [x] (sp w))
    (hsp : ∀ (w : World) (H : Hp) (a : Addr) (ns : List Int), ns.length ≤ n → Only H → SqL (K w.params) H a (ns.map V.int) → sp w [.ref a] H (fun v _ => v = .bl true) fun _ _ _ => False)
    (hCX : ∀ (w : World) (H : Hp) (s : Shared) (e : Value) (s' : Shared), CX w [] H s (fun _ _ _ => False) e s' → False) : PySem.W.WalkO q loose XP YP l.row.toRowW d [] (fun f vs => PySem.call f vs) := by
  refine Att.attach_call hn hdf ?_
  intro w s₀ s₁ mg mb fa o pm cd doc a vs ns G Y ho hd hcd hmg hobj hints hlen hgen
  obtain ⟨fd, hbind, hF⟩ := F w mg fa _ (hY w _ Y) G.T.g hmg
  exact law_callG (hY w _ Y) G.T.g G.T.b G.T.builtins G.T.nolimit hgen hobj hints (Nat.le_trans hlen hn2) room hF hbind (hsp w · a ns hlen · ·) (fun H e s' => hCX w H s₁ e s')
end MyG

set_option maxHeartbeats 2000000
/-! len(set(xs)) of whole numbers, alike or not; what stands for a thing of any kind. -/
namespace MyG
open PySem PySem.Spec PyProof.Rows L2 Evl
theorem met_len {ns : List Int} : ∀ i, i ≤ ns.length → (firstMet (fun i => ns.getD i 0) i).length = i → (ns.take i).Nodup
  | 0, _, _ => by simp
  | i + 1, hi, h => by
    have hlt : i < ns.length := hi
    rw [firstMet_succ] at h
    unfold step_dedup at h
    have le := firstMet_length_le (fun i => ns.getD i 0) i
    by_cases c : (firstMet (fun i => ns.getD i 0) i).any (· == ns.getD i 0) = true
    · rw [if_pos c] at h
      omega
    · rw [if_neg c, List.length_append, List.length_singleton] at h
      have ih := met_len i (Nat.le_of_lt hlt) (by omega)
      rw [firstMet_any] at c
      rw [List.take_add_one, List.getElem?_eq_getElem hlt]
      show (ns.take i ++ [ns[i]]).Nodup
      rw [List.nodup_append]
      refine ⟨ih, by simp, fun a ha b hb e => c ?_⟩
      obtain rfl := List.mem_singleton.mp hb
      subst e
      rw [List.any_eq_true]
      obtain ⟨j, hj, ej⟩ := List.getElem_of_mem ha
      rw [List.length_take] at hj
      refine ⟨ns.getD j 0, List.mem_map.mpr ⟨j, List.mem_range.mpr (by omega), rfl⟩, ?_⟩
      rw [List.getElem_take] at ej
      rw [List.getD_eq_getElem?_getD, List.getD_eq_getElem?_getD, List.getElem?_eq_getElem hlt, List.getElem?_eq_getElem (by omega : j < ns.length)]
      show (ns[j] == ns[i]) = true
      rw [ej]
      exact beq_self_eq_true _
theorem met_iff (ns : List Int) : (firstMet (fun i => ns.getD i 0) ns.length).length = ns.length ↔ ns.Nodup := by
  constructor
  · intro h
    have z := met_len ns.length (Nat.le_refl _) h
    rwa [List.take_length] at z
  · intro h
    rw [RZ.firstMet_nodup h ns.length (Nat.le_refl _), List.take_length]
def tLenSetG (K : PySem.W.Frag) (ta : TE) : TE := fun σ H Q => ta σ H fun x H1 => ∃ (l : Addr) (ns : List Int), x = .ref l ∧ SqL K H1 l (ns.map V.int) ∧ ns.length ≤ 4000 ∧ ∀ n : Nat, (n = ns.length ↔ ns.Nodup) → Q (.int n) H1
theorem pe_lenSetG {X : Cx} {a : Expr} {ta : TE} {p p2 q pos : Pos} (hg : Gl X "len") (hm : X.mg "len" = none) (hg2 : Gl X "set") (hm2 : X.mg "set" = none) (ha : PE X a ta) (hc : X.calm = true := by rfl)
    (na : starEach [a] X.env = (false, eval a X.env) :: starEach [] X.env := by rfl) : PE X (.Call (.Name "len" p) [.Call (.Name "set" p2) [a] [] q] [] pos) (tLenSetG X.K ta) := by
  constructor
  intro pins s σ H Q I h
  refine Call_ (ld_blt I hg hm boot_len (callWith_builtin1 (args_cons ?_ rfl) rfl rfl))
  refine Call_ (ld_blt I hg2 hm2 boot_set (callWith_type1 (args_cons (thn (ha.run pins s σ H _ I h) ?_) na) na rfl))
  rintro v s1 ⟨x, H1, I1, r1, l, ns, rfl, hq, hl, q1⟩
  refine args_nil ?_
  cases r1
  obtain ⟨its, r, pl, hz⟩ := I1.list hq
  have size : its.toArray.size = ns.length := by rw [List.size_toArray, ← r.length, List.length_map]
  refine call_set_list (I1.ok.hd hc) pl.isList (ns := ns) (by simpa using r.ints) (by rw [size]; unfold scanBound; omega) (fun h' tk hS hk => args_nil ?_)
  rw [size] at hS
  have le := firstMet_length_le (fun i => ns.getD i 0) ns.length
  obtain ⟨o, es, ep, t, ho, hex, hd, _, _, _, hf, hn⟩ := hS
  have I2 : Inv X pins σ H1 { s1 with heap := h', toks := tk } := I1.kept fun b o e => hk b o (Heap.lt_size e) e
  exact call_len_set ho hex hd hf (by rw [hn]; omega) ⟨.int ((firstMet (fun i => ns.getD i 0) ns.length).length : Nat), H1, I2.tok _, ⟨_, by rw [hn]⟩, q1 _ (met_iff ns)⟩
/-! ### a thing of any kind, and its kind -/
inductive AnyT (H : Hp) : V → String → Prop
  | non : AnyT H .non "NoneType"
  | bl (b : Bool) : AnyT H (.bl b) "bool"
  | int (i : Int) : AnyT H (.int i) "int"
  | str (x : Str) : AnyT H (.str x) "str"
  | lst {a : Addr} {xs : List V} (h : H a = some (.lst xs)) : AnyT H (.ref a) "list"
  | tup {a : Addr} {xs : List V} (h : H a = some (.tup xs)) : AnyT H (.ref a) "tuple"
  | dK {a : Addr} {xs : List (Key × V)} (h : H a = some (.dK xs)) : AnyT H (.ref a) "dict"
theorem AnyT.ext {H H' : Hp} (e : Ex H H') {x : V} {t : String} (h : AnyT H x t) : AnyT H' x t := by
  cases h with
  | non => exact .non
  | bl b => exact .bl b
  | int i => exact .int i
  | str x => exact .str x
  | lst h => exact .lst (e _ _ h)
  | tup h => exact .tup (e _ _ h)
  | dK h => exact .dK (e _ _ h)
theorem AnyT.ty {K : PySem.W.Frag} {H : Hp} {x : V} {t : String} (h : AnyT H x t) : TyX K H x (.type t) := by
  cases h with
  | non => exact .base .non
  | bl b => exact .base (.bl b)
  | int i => exact .base (.int i)
  | str x => exact .base (.str x)
  | lst h => exact .base (.lst h)
  | tup h => exact .base (.tup h)
  | dK h => exact .base (.dK h)
abbrev kinds7 : List String := ["NoneType", "bool", "int", "str", "list", "tuple", "dict"]
theorem AnyT.mem {H : Hp} {x : V} {t : String} (h : AnyT H x t) : t ∈ kinds7 := by
  cases h <;> decide
theorem kit7 : (kinds7.all fun t => decide (kitB t "int" = some (t == "int" || t == "bool")) && decide (kitB t "bool" = some (t == "bool")) && decide (kitB t "list" = some (t == "list")) && decide (kitB t "tuple" = some (t == "tuple")) && decide (kitB t "str" = some (t == "str")) && decide (kitB t "dict" = some (t == "dict"))) = true := by decide +kernel
theorem kit_all {t : String} (h : t ∈ kinds7) : kitB t "int" = some (t == "int" || t == "bool") ∧ kitB t "bool" = some (t == "bool") ∧ kitB t "list" = some (t == "list") ∧ kitB t "tuple" = some (t == "tuple") ∧ kitB t "str" = some (t == "str") ∧ kitB t "dict" = some (t == "dict") := by
  have z := List.all_eq_true.mp kit7 t h
  simp only [Bool.and_eq_true, decide_eq_true_eq] at z
  exact ⟨z.1.1.1.1.1, z.1.1.1.1.2, z.1.1.1.2, z.1.1.2, z.1.2, z.2⟩
/-- isinstance(x, T) of a thing of any kind -/
theorem isi_int {K : PySem.W.Frag} {H : Hp} {x : V} {t : String} {Q : VK} (h : AnyT H x t) (q : Q (.bl (t == "int" || t == "bool")) H) : rIsi K [x, .ty "int"] H Q := ⟨x, .ty "int", .type t, .type "int", _, rfl, .ty _, h.ty, kit_ty (kit_all h.mem).1, q⟩
theorem isi_bool {K : PySem.W.Frag} {H : Hp} {x : V} {t : String} {Q : VK} (h : AnyT H x t) (q : Q (.bl (t == "bool")) H) : rIsi K [x, .ty "bool"] H Q := ⟨x, .ty "bool", .type t, .type "bool", _, rfl, .ty _, h.ty, kit_ty (kit_all h.mem).2.1, q⟩
theorem isi_list {K : PySem.W.Frag} {H : Hp} {x : V} {t : String} {Q : VK} (h : AnyT H x t) (q : Q (.bl (t == "list")) H) : rIsi K [x, .ty "list"] H Q := ⟨x, .ty "list", .type t, .type "list", _, rfl, .ty _, h.ty, kit_ty (kit_all h.mem).2.2.1, q⟩
theorem isi_tuple {K : PySem.W.Frag} {H : Hp} {x : V} {t : String} {Q : VK} (h : AnyT H x t) (q : Q (.bl (t == "tuple")) H) : rIsi K [x, .ty "tuple"] H Q := ⟨x, .ty "tuple", .type t, .type "tuple", _, rfl, .ty _, h.ty, kit_ty (kit_all h.mem).2.2.2.1, q⟩
theorem isi_str {K : PySem.W.Frag} {H : Hp} {x : V} {t : String} {Q : VK} (h : AnyT H x t) (q : Q (.bl (t == "str")) H) : rIsi K [x, .ty "str"] H Q := ⟨x, .ty "str", .type t, .type "str", _, rfl, .ty _, h.ty, kit_ty (kit_all h.mem).2.2.2.2.1, q⟩
theorem isi_dict {K : PySem.W.Frag} {H : Hp} {x : V} {t : String} {Q : VK} (h : AnyT H x t) (q : Q (.bl (t == "dict")) H) : rIsi K [x, .ty "dict"] H Q := ⟨x, .ty "dict", .type t, .type "dict", _, rfl, .ty _, h.ty, kit_ty (kit_all h.mem).2.2.2.2.2, q⟩
end MyG

set_option maxHeartbeats 2000000
/-! Data that can be shown and compared, by its size. -/
namespace MyG
open PySem PySem.Spec PyProof.Rows L2 Evl
/-- k: how deep, L: how long its text is at most -/
structure Small (d : PyData) (k L : Nat) : Prop where
  sh : d.showable = true
  nd : d.hasDict = false
  dp : d.depth ≤ k
  ln : d.shown.length ≤ L
  cl : d.canLay0 = true
structure SmallAll (ds : List PyData) (k L : Nat) : Prop where
  sh : PyData.showableAll ds = true
  nd : PyData.hasDictAll ds = false
  dp : PyData.depthAll ds ≤ k
  ln : ((PyData.shownAll ds).map (·.length)).sum ≤ ds.length * L
  ll : (PyData.shownAll ds).length = ds.length
  cl : PyData.canLayAll0 ds = true
theorem Small.all {k L : Nat} : ∀ {ds : List PyData}, (∀ d ∈ ds, Small d k L) → SmallAll ds k L
  | [], _ => ⟨rfl, rfl, Nat.zero_le _, Nat.zero_le _, rfl, rfl⟩
  | d :: ds, h => by
    have h1 := h d (List.mem_cons_self ..)
    have h2 := Small.all fun e he => h e (List.mem_cons_of_mem d he)
    refine ⟨?_, ?_, ?_, ?_, ?_, ?_⟩
    · simp only [PyData.showableAll, h1.sh, h2.sh, Bool.and_self]
    · simp only [PyData.hasDictAll, h1.nd, h2.nd, Bool.or_self]
    · simp only [PyData.depthAll]; exact Nat.max_le.mpr ⟨h1.dp, h2.dp⟩
    · have a := h1.ln
      have b := h2.ln
      simp only [PyData.shownAll, List.map_cons, List.sum_cons, List.length_cons]
      rw [Nat.add_mul, Nat.one_mul]
      omega
    · simp only [PyData.shownAll, List.length_cons, h2.ll]
    · simp only [PyData.canLayAll0, h1.cl, h2.cl, Bool.and_self]
theorem small_list {k L : Nat} {ds : List PyData} (h : ∀ d ∈ ds, Small d k L) : Small (.list ds) (k + 1) (ds.length * (L + 2) + 3) := by
  have a := Small.all h
  refine ⟨by simpa only [PyData.showable] using a.sh, by simpa only [PyData.hasDict] using a.nd, by simp only [PyData.depth]; have := a.dp; omega, ?_, by simpa only [PyData.canLay0] using a.cl⟩
  simp only [PyData.shown]
  have b := listText_len_le (PyData.shownAll ds)
  have c := a.ln
  rw [a.ll] at b
  rw [Nat.mul_add]
  omega
theorem small_tuple {k L : Nat} {ds : List PyData} (h : ∀ d ∈ ds, Small d k L) : Small (.tuple ds) (k + 1) (ds.length * (L + 2) + 3) := by
  have a := Small.all h
  refine ⟨by simpa only [PyData.showable] using a.sh, by simpa only [PyData.hasDict] using a.nd, by simp only [PyData.depth]; have := a.dp; omega, ?_, by simpa only [PyData.canLay0] using a.cl⟩
  simp only [PyData.shown]
  have b := tupleText_len_le (PyData.shownAll ds)
  have c := a.ln
  rw [a.ll] at b
  rw [Nat.mul_add]
  omega
theorem Small.mono {d : PyData} {k L k' L' : Nat} (h : Small d k L) (hk : k ≤ k') (hL : L ≤ L') : Small d k' L' := ⟨h.sh, h.nd, Nat.le_trans h.dp hk, Nat.le_trans h.ln hL, h.cl⟩
theorem Small.shaped {d : PyData} {k L : Nat} (h : Small d k L) (hk : k ≤ 64) : SeqAt.shaped d = true := by
  unfold SeqAt.shaped
  rw [h.cl, decide_eq_true (Nat.le_trans h.dp hk)]
  rfl
theorem small_int {i : Int} (h : i.natAbs < 10 ^ 9) : Small (.int i) 0 10 := by
  have h9 : i.natAbs < 2 ^ 1920 := Nat.lt_of_lt_of_le h (by decide +kernel)
  refine ⟨?_, rfl, Nat.le_refl _, ?_, rfl⟩
  · simp only [PyData.showable]
    refine decide_eq_true ?_
    by_cases z : i.natAbs = 0
    · rw [z]; decide
    · exact (Nat.log2_lt z).mpr h9
  · simp only [PyData.shown]
    have := int_text_length_le10 (a := i) (k := 9) (by decide) h
    rw [PySem.ofString_length]
    exact this
/-! ### data in a heap -/
theorem dp_ints {K : PySem.W.Frag} {H : Hp} : ∀ ns : List Int, DpAll K H (ns.map V.int) (ns.map PyData.int)
  | [] => .nil
  | n :: ns => .cons (.int n) (dp_ints ns)
mutual
theorem Dp.ext {K : PySem.W.Frag} {H H' : Hp} (e : Ex H H') : ∀ {v : V} {d : PyData}, Dp K H v d → Dp K H' v d
  | _, _, .non => .non
  | _, _, .bl b => .bl b
  | _, _, .int i => .int i
  | _, _, .str x => .str x
  | _, _, .lst h a => .lst (ex_l e h) (DpAll.ext e a)
  | _, _, .tup h a => .tup (ex_t e h) (DpAll.ext e a)
theorem DpAll.ext {K : PySem.W.Frag} {H H' : Hp} (e : Ex H H') : ∀ {vs : List V} {ds : List PyData}, DpAll K H vs ds → DpAll K H' vs ds
  | _, _, .nil => .nil
  | _, _, .cons h a => .cons (Dp.ext e h) (DpAll.ext e a)
end
theorem eqvAll_ints_nil {ns : List Int} : PyData.eqvAll (ns.map PyData.int) [] = ns.isEmpty := by
  cases ns with
  | nil => rfl
  | cons x r => rfl
theorem repr_ok {K : PySem.W.Frag} {x : V} {d : PyData} {H : Hp} {Q : VK} {k L : Nat} (h : Dp K H x d) (s : Small d k L) (hk : k ≤ 40) (hL : L ≤ 16000000) (q : Q (.str d.shown) H) : rReprD K [x] H Q :=
  ⟨x, d, rfl, h, s.sh, s.nd, Nat.le_trans s.dp hk, Nat.le_trans (Nat.le_trans s.ln hL) (by rw [sizeLine_eq]; decide), q⟩
end MyG

/-! ### one layer of a reading opened -/
namespace MyG
open PySem PySem.Spec PyProof.Rows L2 Evl
section
variable {σ : L2.St} {H : Hp} {Q : VK} {ta tb : TE} {t : TT} {tt tu : TS} {D : Ends} {g : TG} {as tr : TA}
theorem un_and (h : ta σ H fun x H1 => ∃ c, x = .bl c ∧ if c = true then tb σ H1 Q else Q (.bl false) H1) : tAndV ta tb σ H Q := h
theorem un_or (h : ta σ H fun x H1 => ∃ c, x = .bl c ∧ if c = true then Q (.bl true) H1 else tb σ H1 Q) : tOrV ta tb σ H Q := h
theorem un_cb {r : List V → Hp → VK → Prop} (h : as σ H fun vs H1 => r vs H1 Q) : tCB r as σ H Q := h
theorem un_call {sp : Sp} {dvs : List V} {E : XK} (h : as σ H fun vs H1 => sp (vs ++ dvs) H1 Q E) : tCall sp dvs E as σ H Q := h
theorem un_cons {R : List V → Hp → Prop} (h : ta σ H fun x H1 => tr σ H1 fun xs H2 => R (x :: xs) H2) : tCons ta tr σ H R := h
theorem un_op {r : R2} (h : ta σ H fun x H1 => tb σ H1 fun y H2 => r x y H2 Q) : tOp r ta tb σ H Q := h
theorem un_test {R : Bool → Hp → Prop} (h : ta σ H fun x H' => ∃ k, x = .bl k ∧ R k H') : tTest ta σ H R := h
theorem un_lst (h : as σ H fun xs H1 => xs.length ≤ sizeLine ∧ ∀ p, H1 p = none → Q (.ref p) (upd H1 p (.lst xs))) : tLst as σ H Q := h
theorem un_ret (h : ta σ H D.rt) : tRet ta D σ H := h
theorem un_asg (h : ta σ H fun x H1 => g x σ H1 D.nx) : tAsg ta g D σ H := h
theorem un_seq (h : tt { D with nx := tu D } σ H) : tSeq tt tu D σ H := h
theorem un_if (h : t σ H fun b H1 => if b = true then tt D σ H1 else tu D σ H1) : tIfS t tt tu D σ H := h
end
end MyG
namespace MyG
open PySem PySem.Spec PyProof.Rows L2 Evl
section
variable {σ : L2.St} {H : Hp} {ta : TE} {t : TT} {R : Bool → Hp → Prop}
theorem un_not (h : t σ H fun c H1 => R (!c) H1) : tNot t σ H R := h
theorem un_tB (h : ta σ H fun x H1 => ∃ c, x = .bl c ∧ R c H1) : tB ta σ H R := h
theorem un_c {v : V} {Q : VK} (h : Q v H) : tC v σ H Q := h
theorem un_next {D : Ends} (h : D.nx σ H) : tNext D σ H := h
theorem un_yes (h : R true H) : tYes σ H R := h
end
end MyG

/-! ### the layer's rules with the written part named (for the blocks of comprehensions) -/
namespace MyG
open PySem PySem.Spec PyProof.Rows L2 Evl
section
variable {X : Cx} {K : PySem.W.Frag}
def rLenQ (K : PySem.W.Frag) : List V → Hp → VK → Prop := fun xs H Q => ∃ p ys, xs = [.ref p] ∧ (SqL K H p ys ∨ SqT K H p ys) ∧ Q (.int ys.length) H
def rListQ (K : PySem.W.Frag) : List V → Hp → VK → Prop := fun xs H Q => ∃ p ys, xs = [.ref p] ∧ (SqL K H p ys ∨ SqT K H p ys) ∧ ∀ l, H l = none → Q (.ref l) (upd H l (.lst ys))
theorem ix_listK (h : X.K = K) : IxR X (rIxL K) := by subst h; exact ix_list
theorem ix_tupK (h : X.K = K) : IxR X (rIxT K) := by subst h; exact ix_tup
theorem op_inK (h : X.K = K) : OpR X (compareOp .In) (rIn K false) := by subst h; exact op_in_seq
theorem op_niK (h : X.K = K) : OpR X (compareOp .NotIn) (rIn K true) := by subst h; exact op_notIn_seq
theorem op_eqK (h : X.K = K) (hu : X.A.units + 64 < cLine) : OpR X (compareOp .Eq) (rEqD K) := by subst h; exact op_eqD hu
theorem op_neK (h : X.K = K) (hu : X.A.units + 64 < cLine) : OpR X (compareOp .NotEq) (rNeD K) := by subst h; exact op_neD hu
theorem sl_listK (h : X.K = K) : SlR X (rSlL K) := by subst h; exact sl_list
theorem sl_tupK (h : X.K = K) : SlR X (rSlT K) := by subst h; exact sl_tup
theorem catTK (h : X.K = K) : OpR X (binaryOp .Add) (rCatT K) := by subst h; exact op_catT
theorem lenK (h : X.K = K) : CallR X (.builtin "len") (rLenQ K) := by subst h; exact call_len_seq
theorem listK (h : X.K = K) : CallR X (.type "list") (rListQ K) := by subst h; exact call_list_of
theorem sumK (h : X.K = K) (hc : X.calm = true) : CallR X (.builtin "sum") (rSum K) := by subst h; exact cr_sum hc
theorem allK (h : X.K = K) (hc : X.calm = true) : CallR X (.builtin "all") (rAll K) := by subst h; exact cr_all hc
theorem sortedK (h : X.K = K) : CallR X (.builtin "sorted") (rSorted K) := by subst h; exact cr_sorted
theorem isiK (h : X.K = K) : CallR X (.builtin "isinstance") (rIsi K) := by subst h; exact call_isi
theorem reprK {k : Nat} (h : X.K = K) (hgd : X.A.guards = some []) (room : Room k X.A) : CallR X (.builtin "repr") (rReprD K) := by subst h; exact call_reprD hgd room
theorem fldK {e : Expr} {ta : TE} {f : Str} {pos : Pos} (h : X.K = K) (he : PE X e ta) (hb : attributeBase e f X.env (eval e X.env) = eval e X.env) : PE X (.Attribute e f pos) (tFld K ta f) := by subst h; exact pe_fld he hb
theorem iListK {tg l : Expr} {tl : TE} (h : X.K = K) (hl : PE X l tl) : PI X tg l (iList K tl) := by subst h; exact pi_list hl
theorem iTupK {tg l : Expr} {tl : TE} (h : X.K = K) (hl : PE X l tl) : PI X tg l (iTup K tl) := by subst h; exact pi_tup hl
theorem lenSetK {a : Expr} {ta : TE} {p p2 q pos : Pos} (h : X.K = K) (hg : Gl X "len") (hm : X.mg "len" = none) (hg2 : Gl X "set") (hm2 : X.mg "set" = none) (ha : PE X a ta) (hc : X.calm = true := by rfl)
    (na : starEach [a] X.env = (false, eval a X.env) :: starEach [] X.env := by rfl) : PE X (.Call (.Name "len" p) [.Call (.Name "set" p2) [a] [] q] [] pos) (tLenSetG K ta) := by subst h; exact pe_lenSetG hg hm hg2 hm2 ha hc na
end
end MyG

set_option maxHeartbeats 2000000
/-! == and != where an instance with an own __eq__ stands on one side. -/
namespace MyG
open PySem PySem.Spec PyProof.Rows
section
variable {prog : Program} {w : World} {A : Around} {E : Value → Shared → Prop} {h : Heap} {g : Array GenState} {d : Drawn} {t : Nat} {os : OsState} {x C dx : Addr} {Q : Value → Shared → Prop}
/-- what the built-in == says of an instance on its right: it declines -/
def Declines (prog : Program) (w : World) (A : Around) (h : Heap) (id : String) (u : Value) (x : Addr) : Prop :=
  ∀ (E : Value → Shared → Prop) (Q : Value → Shared → Prop) (g : Array GenState) (d : Drawn) (t : Nat) (os : OsState), (∀ tk, Q .notImplemented ⟨h, g, d, tk, os⟩) → wpAny (model prog w) A (call (.builtin id) [u, .ref x]) Q E ⟨h, g, d, t, os⟩
theorem dec_none : Declines prog w A h "NoneType.__eq__" .none x := by
  intro E Q g d t os q
  refine wpAny_call_entry F.slot_NoneType_eq (typeIs_none _) F.entry_NoneType_eq ?_ (F.args_NoneType_eq_2 _ _)
  unfold Builtin.«NoneType.__eq__»
  repeat wp_step
  all_goals exact ⟨_, rfl, q _⟩
theorem dec_int {i : Int} {tk : Tok} (hx : h.get? x = some (PySem.W.instObj C dx)) : Declines prog w A h "int.__eq__" (.int i tk) x := by
  intro E Q g d t os q
  refine wpAny_call_entry F.slot_int_eq (typeIs_int _ _ _) F.entry_int_eq ?_ (F.args_int_eq_2 _ _)
  unfold Builtin.«int.__eq__»
  repeat wp_step
  all_goals exact ⟨_, rfl, q _⟩
theorem dec_bool {b : Bool} (hx : h.get? x = some (PySem.W.instObj C dx)) : Declines prog w A h "int.__eq__" (.bool b) x := by
  intro E Q g d t os q
  refine wpAny_call_entry F.slot_bool_eq (PySem.typeIs_bool _ _) F.entry_int_eq ?_ (F.args_int_eq_2 _ _)
  unfold Builtin.«int.__eq__»
  repeat wp_step
  all_goals exact ⟨_, rfl, q _⟩
theorem dec_str {y : Str} {tk : Tok} (hx : h.get? x = some (PySem.W.instObj C dx)) : Declines prog w A h "str.__eq__" (.str y tk) x := by
  intro E Q g d t os q
  refine wpAny_call_entry F.slot_str_eq (typeIs_str _ _ _) F.entry_str_eq ?_ (F.args_str_eq_2 _ _)
  unfold Builtin.«str.__eq__» Builtin.Str.strCompare
  repeat wp_step
  all_goals exact ⟨_, rfl, q _⟩
theorem inst_not {T : String} (hx : h.get? x = some (PySem.W.instObj C dx)) (hs : PySem.W.Looks (model prog w) h (isSubtype (.ref C) (.type T)) false) {A : Around} {E : Value → Shared → Prop} {Q : Bool → Shared → Prop} (q : Q false ⟨h, g, d, t, os⟩) :
    wpAny (model prog w) A (isInstance (.ref x) (.type T)) Q E ⟨h, g, d, t, os⟩ := by
  unfold isInstance
  exact wpAny_bind (wpAny_typeOf_ref hx (hs.at q))
theorem dec_list {l : Addr} {o : Obj} (hl : h.get? l = some o) (hlc : o.cls = .type "list") (hx : h.get? x = some (PySem.W.instObj C dx)) (hs : PySem.W.Looks (model prog w) h (isSubtype (.ref C) (.type "list")) false) : Declines prog w A h "list.__eq__" (.ref l) x := by
  intro E Q g d t os q
  refine wpAny_call_entry F.slot_list_eq ⟨_, hl, hlc⟩ F.entry_list_eq ?_ (F.args_list_eq_2 _ _)
  unfold Builtin.«list.__eq__»
  repeat (first | (refine wpAny_bind (m := isInstance (.ref x) (.type "list")) (inst_not hx hs ?_)) | wp_step)
  all_goals exact ⟨_, rfl, q _⟩
theorem dec_tuple {l : Addr} {o : Obj} (hl : h.get? l = some o) (hlc : o.cls = .type "tuple") (hx : h.get? x = some (PySem.W.instObj C dx)) (hs : PySem.W.Looks (model prog w) h (isSubtype (.ref C) (.type "tuple")) false) : Declines prog w A h "tuple.__eq__" (.ref l) x := by
  intro E Q g d t os q
  refine wpAny_call_entry F.slot_tuple_eq ⟨_, hl, hlc⟩ F.entry_tuple_eq ?_ (F.args_tuple_eq_2 _ _)
  unfold Builtin.«tuple.__eq__»
  repeat (first | (refine wpAny_bind (m := isInstance (.ref x) (.type "tuple")) (inst_not hx hs ?_)) | wp_step)
  all_goals exact ⟨_, rfl, q _⟩
theorem dec_dict {l : Addr} {o : Obj} (hl : h.get? l = some o) (hlc : o.cls = .type "dict") (hx : h.get? x = some (PySem.W.instObj C dx)) (hs : PySem.W.Looks (model prog w) h (isSubtype (.ref C) (.type "dict")) false) : Declines prog w A h "dict.__eq__" (.ref l) x := by
  intro E Q g d t os q
  refine wpAny_call_entry F.slot_dict_eq ⟨_, hl, hlc⟩ F.entry_dict_eq ?_ (F.args_dict_eq_2 _ _)
  unfold Builtin.«dict.__eq__»
  repeat (first | (refine wpAny_bind (m := isInstance (.ref x) (.type "dict")) (inst_not hx hs ?_)) | wp_step)
  all_goals exact ⟨_, rfl, q _⟩
/-- u == x, u of a built-in type whose == declines, x an instance: the other way about, by its own -/
theorem rc_right {u : Value} {T id : String} {K : PySem.W.Frag} {f : Addr} (hT : ∀ s : Shared, s.heap = h → s.TypeIs u T) (hs1 : Slot T (cmpInfo .Eq).2.1 id) (dec : Declines prog w A h id u x) (KX : K.In h) (hx : h.get? x = some (PySem.W.instObj C dx))
    (hs : PySem.W.Looks (model prog w) h (isSubtype (.ref C) (.type T)) false) (he : PySem.W.findIn K (.ref C) "__eq__" = some (some (.ref f))) (hf : PySem.W.isFn K (.ref f) = true) (hu : A.units < cLine)
    (I : PySem.W.InstAt h x (PySem.W.instObj C dx) C none ∨ ∃ od, PySem.W.InstAt h x (PySem.W.instObj C dx) C (some od))
    (hcall : ∀ tk, wpAny (model prog w) A (call (.ref f) [.ref x, u]) (fun v s' => ∃ b, v = .bool b ∧ Q v s') E ⟨h, g, d, tk, os⟩) :
    wpAny (model prog w) A (richCompare .Eq u (.ref x)) Q E ⟨h, g, d, t, os⟩ := by
  obtain ⟨od, I⟩ : ∃ od, PySem.W.InstAt h x (PySem.W.instObj C dx) C od := by
    rcases I with I | ⟨od, I⟩
    · exact ⟨_, I⟩
    · exact ⟨_, I⟩
  unfold richCompare
  rw [(hT ⟨h, g, d, t, os⟩ rfl).oneThing_none]
  refine wpAny_holding (wpAny_bind (wpAny_cRoomFor hu ?_))
  rw [cmpInfo_Eq]
  dsimp only
  refine wpAny_bind (wpAny_typeOf (hT _ rfl) (wpAny_bind (wpAny_typeOf_ref hx ?_)))
  rw [show (Value.type T != (PySem.W.instObj C dx).cls) = true from rfl, if_pos rfl]
  refine wpAny_bind (hs.at ?_)
  simp only [Bool.false_eq_true, if_false, Bool.not_false, if_true]
  refine wpAny_bind (m := tryCompare u _ (.ref x)) (wpAny_tryCompare_declines (hT _ rfl) hs1 (dec _ _ _ _ _ _ fun tk => ⟨rfl, ?_⟩))
  refine wpAny_bind (m := tryCompare (.ref x) _ u) ?_
  unfold tryCompare
  refine wpAny_bind (PySem.W.ifBound_K (KX) I he hf (wpAny_mono (hcall tk) (fun v s' hv => ?_) fun _ _ e => e))
  obtain ⟨b, rfl, hq⟩ := hv
  exact wpAny_pure (wpAny_pure hq)
/-- x != b by the built-in !=, which asks the own == -/
theorem ne_own {b tb : Value} {K : PySem.W.Frag} {f : Addr} {od : Option Obj} (KX : K.In h) (I : PySem.W.InstAt h x (PySem.W.instObj C dx) C od) (hb : PySem.W.Looks (model prog w) h (typeOf b) tb) (hn : PySem.W.notFirst K C tb = true)
    (he : PySem.W.findIn K (.ref C) "__eq__" = some (some (.ref f))) (hf : PySem.W.isFn K (.ref f) = true) (hne : PySem.W.findIn K (.ref C) "__ne__" = some (some (.builtin "object.__ne__"))) (hob : PySem.W.subIn K (.ref C) (.type "object") = some true) (hu : A.units + 1 < cLine)
    (hcall : ∀ tk, wpAny (model prog w) A.in1 (call (.ref f) [.ref x, b]) (fun v s' => ∃ k, v = .bool k ∧ Q (.bool (!k)) s') E ⟨h, g, d, tk, os⟩) :
    wpAny (model prog w) A (richCompare .NotEq (.ref x) b) Q E ⟨h, g, d, t, os⟩ := by
  have hx := I.at_
  -- the built-in's own body
  have body : ∀ tk, wpAny (model prog w) A.in1 (Builtin.«object.__ne__» ⟨[.ref x, b], []⟩) (fun fin s' => ∃ k, fin = .done (.ret (.bool k)) ∧ Q (.bool k) s') E ⟨h, g, d, tk, os⟩ := by
    intro tk
    unfold Builtin.«object.__ne__»
    repeat (first
      | with_reducible refine wpAny_cRoomFor hu ?_
      | (refine wpAny_bind (m := callSpecialIfBound? (.ref x) (Str.ofString "__eq__") [b]) (PySem.W.ifBound_K KX I he hf (wpAny_mono (hcall _) (fun r s' hr => by
            obtain ⟨k, rfl, hq⟩ := hr
            repeat (first | exact ⟨_, rfl, hq⟩ | (refine wpAny_bind (m := truthy (.bool _)) (wpAny_truthy_bool ?_)) | wp_step)) fun _ _ e => e)))
      | wp_step)
  have chk : ∀ tk {Q' : Unit → Shared → Prop} {E' : Value → Shared → Prop}, Q' () ⟨h, g, d, tk, os⟩ → wpAny (model prog w) A.in1 (checkBuiltinCall "object.__ne__" ⟨[.ref x, b], []⟩) Q' E' ⟨h, g, d, tk, os⟩ := by
    intro tk Q' E' hq
    simp only [checkBuiltinCall, F.cmpKind_ne, F.cmpSplit_ne]
    refine wpAny_bind ?_
    · unfold isInstance
      repeat (first | (with_reducible refine wpAny_loadPart_at hx ?_) | wp_step)
      refine (PySem.W.looks_subIn KX hob).at ?_
      simp only [Bool.not_true, Bool.false_eq_true, if_false]
      have ha := F.cmpArgs_ne (.ref x) b
      cases hsig : Manifest.signature? "object.__ne__" with
      | none => exact wpAny_pure hq
      | some sig =>
        simp only [argsOk, hsig] at ha
        have h2 : Bind.checkArgs "object.__ne__" sig ⟨[.ref x, b], []⟩ = pure () := ha
        show wpAny _ _ (Bind.checkArgs "object.__ne__" sig ⟨[.ref x, b], []⟩) Q' E' _
        rw [h2]
        exact wpAny_pure hq
  have one : ∀ tk, wpAny (model prog w) A (tryCompare (.ref x) "__ne__" b) (fun r s' => ∃ k, r = some (.bool k) ∧ Q (.bool k) s') E ⟨h, g, d, tk, os⟩ := by
    intro tk
    unfold tryCompare
    have inner : ∀ tk, wpAny (model prog w) A (call (.builtin "object.__ne__") [.ref x, b]) (fun v s' => ∃ k, v = .bool k ∧ Q (.bool k) s') E ⟨h, g, d, tk, os⟩ := by
      intro tk
      refine wpAny_call (codeAny_call_builtin F.slot_range_iterator_ne.plain F.cmpEntry_ne (chk tk ?_))
      refine wpAny_mono (body tk) (fun fin s' hf => ?_) fun _ _ e => e
      obtain ⟨k, rfl, hq⟩ := hf
      exact ⟨k, rfl, hq⟩
    refine wpAny_bind (m := callSpecialIfBound? (.ref x) "__ne__" [b]) ?_
    simp only [callSpecialIfBound?, bindSpecialIfBound?]
    refine wpAny_holding (wpAny_bind (wpAny_bind (wpAny_bind (I.type.at ((PySem.W.looks_findIn KX hne).at ?_)))))
    simp only [F.slot_range_iterator_ne.bind]
    refine wpAny_bind (wpAny_askSetting (wpAny_ite ?_))
    have fin : ∀ tk, wpAny (model prog w) A (call (.builtin "object.__ne__") ([.ref x] ++ [b]) >>= fun v => pure (some v)) (fun a s' => wpAny (model prog w) A (match a with
        | some .notImplemented | none => pure none
        | some v => pure (some v)) (fun r s' => ∃ k, r = some (.bool k) ∧ Q (.bool k) s') E s') E ⟨h, g, d, tk, os⟩ := fun tk =>
      wpAny_bind (wpAny_mono (inner tk) (fun v s' hv => by
        obtain ⟨k, rfl, hq⟩ := hv
        exact wpAny_pure (wpAny_pure ⟨k, rfl, hq⟩)) fun _ _ e => e)
    split
    · exact wpAny_bind (wpAny_pure (wpAny_pure (fin _)))
    · exact wpAny_tryCatch (wpAny_bind (wpAny_pure (wpAny_pure (fin _))))
  unfold richCompare
  simp only [oneThing_ref]
  refine wpAny_holding (wpAny_bind (wpAny_cRoomFor (Nat.lt_of_succ_lt hu) ?_))
  rw [cmpInfo_NotEq]
  dsimp only
  refine wpAny_bind (I.type.at (wpAny_bind (hb.at ?_)))
  by_cases q : (Value.ref C != tb) = true
  · rw [if_pos q]
    have e : PySem.W.subIn K tb (.ref C) = some false := by
      rcases Bool.or_eq_true_iff.mp hn with e | e
      · rw [beq_iff_eq.mp e] at q
        simp at q
      · exact beq_iff_eq.mp e
    refine wpAny_bind ((PySem.W.looks_subIn KX e).at ?_)
    simp only [Bool.false_eq_true, if_false]
    refine wpAny_bind (wpAny_mono (one _) (fun r s' hr => ?_) fun _ _ e => e)
    obtain ⟨k, rfl, hq⟩ := hr
    exact wpAny_pure hq
  · rw [if_neg q]
    refine wpAny_bind (wpAny_pure ?_)
    simp only [Bool.false_eq_true, if_false]
    refine wpAny_bind (wpAny_mono (one _) (fun r s' hr => ?_) fun _ _ e => e)
    obtain ⟨k, rfl, hq⟩ := hr
    exact wpAny_pure hq
end
end MyG

/-! ### the same over the layer -/
namespace MyG
open PySem PySem.Spec PyProof.Rows L2 Evl
/-- what is written of a class with an own __eq__ (f) and no own __ne__ -/
structure EqC (K : PySem.W.Frag) (C f : Addr) : Prop where
  he : PySem.W.findIn K (.ref C) "__eq__" = some (some (.ref f))
  hf : PySem.W.isFn K (.ref f) = true
  ne : PySem.W.findIn K (.ref C) "__ne__" = some (some (.builtin "object.__ne__"))
  ob : PySem.W.subIn K (.ref C) (.type "object") = some true
  no : ∀ T ∈ kinds7, PySem.W.subIn K (.ref C) (.type T) = some false
/-- an instance of the class at C, or a thing of a built-in kind -/
def AnyI (C : Addr) (H : Hp) (y : V) : Prop := (∃ t, AnyT H y t) ∨ ∃ b dy gs, y = .ref b ∧ H b = some (.ins C dy gs)
theorem mro7 : (kinds7.all fun t => match fastBuiltinMro t with
  | some l => l.all fun v => match v with
    | .ref _ => false
    | _ => true
  | none => false) = true := by decide +kernel
theorem first7 {K : PySem.W.Frag} {C : Addr} {t : String} (h : t ∈ kinds7) : PySem.W.notFirst K C (.type t) = true := by
  have z := List.all_eq_true.mp mro7 t h
  unfold PySem.W.notFirst
  rw [Bool.or_eq_true]
  right
  show (((fastBuiltinMro t).map (·.contains (.ref C))) == some false) = true
  cases e : fastBuiltinMro t with
  | none => rw [e] at z; cases z
  | some l =>
    rw [e] at z
    have z' : ∀ v ∈ l, (match v with | .ref _ => false | _ => true) = true := List.all_eq_true.mp z
    have n : l.contains (.ref C) = false := by
      cases c : l.contains (.ref C) with
      | false => rfl
      | true =>
        have m := List.contains_iff_mem.mp c
        exact absurd (z' _ m) Bool.false_ne_true
    simp only [Option.map_some, n]
    rfl
section
variable {X : Cx} {pins : List (Addr × Obj)} {σ : L2.St} {H : Hp} {s : Shared} {C f : Addr} {fd : FuncData} {ps : List Str} {n : Nat} {sp : Sp} {CX : CXT} {E : XK}
theorem any_type {y : V} {v : Value} {t : String} (I : Inv X pins σ H s) (r : RelV y v) (a : AnyT H y t) : ∀ s' : Shared, s'.heap = s.heap → s'.TypeIs v t := by
  intro s' hs
  cases a with
  | non => cases (show v = Value.none from r); exact typeIs_none _
  | bl b => cases (show v = Value.bool b from r); exact PySem.typeIs_bool _ _
  | int i => obtain ⟨k, rfl⟩ := (show ∃ k, v = Value.int i k from r); exact typeIs_int _ _ _
  | str x => obtain ⟨k, rfl⟩ := (show ∃ k, v = Value.str x k from r); exact typeIs_str _ _ _
  | @lst a xs h =>
    cases (show v = Value.ref a from r)
    obtain ⟨_, _, k, _, e⟩ := I.hok a _ h
    exact ⟨_, by rw [hs]; exact e, rfl⟩
  | @tup a xs h =>
    cases (show v = Value.ref a from r)
    obtain ⟨_, _, _, o, e, e2, _⟩ := I.hok a _ h
    exact ⟨o, by rw [hs]; exact e, e2⟩
  | @dK a xs h =>
    cases (show v = Value.ref a from r)
    obtain ⟨_, _, _, _, o, _, _, e, e2, _⟩ := I.hok a _ h
    exact ⟨o, by rw [hs]; exact e, e2.1⟩
theorem any_looks {y : V} {v : Value} {M : Model} {t : String} (I : Inv X pins σ H s) (r : RelV y v) (a : AnyT H y t) : PySem.W.Looks M s.heap (typeOf v) (.type t) := by
  intro A Q E s' k q
  have J : s'.TypeIs v t := by
    cases a with
    | non => cases (show v = Value.none from r); exact typeIs_none _
    | bl b => cases (show v = Value.bool b from r); exact PySem.typeIs_bool _ _
    | int i => obtain ⟨k, rfl⟩ := (show ∃ k, v = Value.int i k from r); exact typeIs_int _ _ _
    | str x => obtain ⟨k, rfl⟩ := (show ∃ k, v = Value.str x k from r); exact typeIs_str _ _ _
    | @lst a xs h =>
      cases (show v = Value.ref a from r)
      obtain ⟨_, _, n, _, e⟩ := I.hok a _ h
      exact ⟨_, k _ _ e, rfl⟩
    | @tup a xs h =>
      cases (show v = Value.ref a from r)
      obtain ⟨_, _, _, o, e, e2, _⟩ := I.hok a _ h
      exact ⟨o, k _ _ e, e2⟩
    | @dK a xs h =>
      cases (show v = Value.ref a from r)
      obtain ⟨_, _, _, _, o, _, _, e, e2, _⟩ := I.hok a _ h
      exact ⟨o, k _ _ e, e2.1⟩
  exact wpAny_typeOf J q
def rEqL (C : Addr) (sp : Sp) (E : XK) : R2 := fun x y H Q => ∃ a dx fs, x = .ref a ∧ H a = some (.ins C dx fs) ∧ AnyI C H y ∧ sp [.ref a, y] H (fun v H' => ∃ k, v = .bl k ∧ Q (.bl k) H') E
def rNeL (C : Addr) (sp : Sp) (E : XK) : R2 := fun x y H Q => ∃ a dx fs, x = .ref a ∧ H a = some (.ins C dx fs) ∧ AnyI C H y ∧ sp [.ref a, y] H (fun v H' => ∃ k, v = .bl k ∧ Q (.bl (!k)) H') E
def rEqR (C : Addr) (sp : Sp) (E : XK) : R2 := fun y x H Q => ∃ a dx fs t, x = .ref a ∧ H a = some (.ins C dx fs) ∧ AnyT H y t ∧ sp [.ref a, y] H (fun v H' => ∃ k, v = .bl k ∧ Q (.bl k) H') E
/-- the own __eq__, called wherever there is room -/
theorem run_eq {A : Around} {v : Value} {y : V} {a : Addr} {Q : VK} (F : FnOk X.prog X.w X.K X.mg X.base CX n f fd ps sp) (room : Room n A) (fr : A.frames = X.A.frames) (hb : Binds X.K fd ps []) (hx : Passes CX X E) (I : Inv X pins σ H s) (r : RelV y v) (h : sp [.ref a, y] H Q E) :
    wpAny (model X.prog X.w) A (call (.ref f) [.ref a, v]) (EP X pins σ Q) X.xe s := by
  have e0 : Env0 X.prog X.w X.K X.mg X.base A X.stack s H := { I.env0 with frames := by rw [fr]; exact I.env0.frames }
  have rel : Vals [V.ref a, y] [Value.ref a, v] := .cons rfl (.cons r .nil)
  have hl : [Value.ref a, v].length = ps.length := rel.length.symm.trans (F.len _ _ _ _ h)
  have b := hb s [Value.ref a, v] I.kIn (by rw [List.append_nil]; exact hl)
  rw [List.append_nil] at b
  refine wpAny_call (codeAny_mono (F.run A X.stack s H ⟨[.ref a, v], []⟩ [.ref a, v] [.ref a, y] Q E room e0 b rel h) (fun r s' hq => ?_))
  match r, hq with
  | .error e, hq => exact hx pins σ H s e s' I hq
  | .ok (.ret u), hq => exact I.after hq
theorem op_eqL (c : EqC X.K C f) (F : FnOk X.prog X.w X.K X.mg X.base CX n f fd ps sp) (room : Room n X.A) (hb : Binds X.K fd ps []) (hx : Passes CX X E) : OpR X (compareOp .Eq) (rEqL C sp E) := by
  intro pins s σ H x y v u Q I rx ry h
  obtain ⟨a, dx, fs, rfl, ha, hy, hs⟩ := h
  cases rx
  obtain ⟨mA, J, _⟩ := ins_get I.hok ha
  obtain ⟨od, J, _⟩ := J.look
  obtain ⟨m, hF⟩ := I.fr
  show wpAny (model X.prog X.w) X.A (richCompare .Eq (.ref a) u) (EP X pins σ Q) X.xe s
  have go : wpAny (model X.prog X.w) X.A (call (.ref f) [.ref a, u]) (PySem.W.CmpBack (EP X pins σ Q)) X.xe s := by
    refine wpAny_mono (run_eq F room rfl hb hx I ry hs) (fun w s' hw => ?_) fun _ _ e => e
    obtain ⟨z, H', I', rz, k, rfl, hq⟩ := hw
    cases rz
    exact ⟨.bl k, H', I', rfl, hq⟩
  rcases hy with ⟨t, ht⟩ | ⟨b, dy, gs, rfl, hb'⟩
  · exact PySem.W.cmp_K (op := .Eq) (tb := .type t) room.units0 hF I.ok.mod.kin J (any_looks I ry ht) (first7 ht.mem) c.he c.hf go
  · cases ry
    obtain ⟨mB, J', _⟩ := ins_get I.hok hb'
    obtain ⟨od', J', _⟩ := J'.look
    exact PySem.W.cmp_K (op := .Eq) (tb := .ref C) room.units0 hF I.ok.mod.kin J J'.type (by simp [PySem.W.notFirst]) c.he c.hf go
theorem op_neL (c : EqC X.K C f) (F : FnOk X.prog X.w X.K X.mg X.base CX n f fd ps sp) (room : Room (n + 1) X.A) (hb : Binds X.K fd ps []) (hx : Passes CX X E) : OpR X (compareOp .NotEq) (rNeL C sp E) := by
  intro pins s σ H x y v u Q I rx ry h
  obtain ⟨a, dx, fs, rfl, ha, hy, hs⟩ := h
  cases rx
  obtain ⟨mA, J, _⟩ := ins_get I.hok ha
  obtain ⟨od, J, _⟩ := J.look
  show wpAny (model X.prog X.w) X.A (richCompare .NotEq (.ref a) u) (EP X pins σ Q) X.xe s
  have un := room.units
  obtain ⟨hp, g, d, tk, os⟩ := s
  have go : ∀ tk', wpAny (model X.prog X.w) X.A.in1 (call (.ref f) [.ref a, u]) (fun v s' => ∃ k, v = .bool k ∧ EP X pins σ Q (.bool (!k)) s') X.xe ⟨hp, g, d, tk', os⟩ := by
    intro tk'
    refine wpAny_mono (run_eq F room.in1 rfl hb hx (I.tok tk') ry hs) (fun w s' hw => ?_) fun _ _ e => e
    obtain ⟨z, H', I', rz, k, rfl, hq⟩ := hw
    cases rz
    exact ⟨k, rfl, .bl (!k), H', I', rfl, hq⟩
  rcases hy with ⟨t, ht⟩ | ⟨b, dy, gs, rfl, hb'⟩
  · exact ne_own (tb := .type t) I.kIn J (any_looks I ry ht) (first7 ht.mem) c.he c.hf c.ne c.ob (by omega) go
  · cases ry
    obtain ⟨mB, J', _⟩ := ins_get I.hok hb'
    obtain ⟨od', J', _⟩ := J'.look
    exact ne_own (tb := .ref C) I.kIn J J'.type (by simp [PySem.W.notFirst]) c.he c.hf c.ne c.ob (by omega) go
theorem op_eqRt (c : EqC X.K C f) (F : FnOk X.prog X.w X.K X.mg X.base CX n f fd ps sp) (room : Room n X.A) (hb : Binds X.K fd ps []) (hx : Passes CX X E) : OpR X (compareOp .Eq) (rEqR C sp E) := by
  intro pins s σ H y x u v Q I ry rx h
  obtain ⟨a, dx, fs, t, rfl, ha, ht, hs⟩ := h
  cases rx
  obtain ⟨mA, J, _⟩ := ins_get I.hok ha
  obtain ⟨od, J, _⟩ := J.look
  have un := room.units0
  have hT := any_type I ry ht
  have sub := PySem.W.looks_subIn (M := model X.prog X.w) I.kIn (c.no t ht.mem)
  show wpAny (model X.prog X.w) X.A (richCompare .Eq u (.ref a)) (EP X pins σ Q) X.xe s
  have hx' := J.at_
  have ok := I.hok
  obtain ⟨hp, g, d, tk, os⟩ := s
  have go : ∀ tk', wpAny (model X.prog X.w) X.A (call (.ref f) [.ref a, u]) (fun v s' => ∃ k, v = .bool k ∧ EP X pins σ Q v s') X.xe ⟨hp, g, d, tk', os⟩ := by
    intro tk'
    refine wpAny_mono (run_eq F room rfl hb hx (I.tok tk') ry hs) (fun w s' hw => ?_) fun _ _ e => e
    obtain ⟨z, H', I', rz, k, rfl, hq⟩ := hw
    cases rz
    exact ⟨k, rfl, .bl k, H', I', rfl, hq⟩
  have fin : ∀ {id : String}, Slot t (cmpInfo .Eq).2.1 id → Declines X.prog X.w X.A hp id u a → wpAny (model X.prog X.w) X.A (richCompare .Eq u (.ref a)) (EP X pins σ Q) X.xe ⟨hp, g, d, tk, os⟩ := fun {id} sl dec =>
    rc_right hT sl dec I.kIn hx' sub c.he c.hf un (.inr ⟨_, J⟩) go
  cases ht with
  | non => cases (show u = Value.none from ry); exact fin PySem.F.slot_NoneType_eq dec_none
  | bl b => cases (show u = Value.bool b from ry); exact fin PySem.F.slot_bool_eq (dec_bool hx')
  | int i => obtain ⟨k, rfl⟩ := (show ∃ k, u = Value.int i k from ry); exact fin PySem.F.slot_int_eq (dec_int hx')
  | str z => obtain ⟨k, rfl⟩ := (show ∃ k, u = Value.str z k from ry); exact fin PySem.F.slot_str_eq (dec_str hx')
  | @lst b xs h =>
    cases (show u = Value.ref b from ry)
    obtain ⟨_, _, k, _, e⟩ := ok b _ h
    exact fin PySem.F.slot_list_eq (dec_list e rfl hx' sub)
  | @tup b xs h =>
    cases (show u = Value.ref b from ry)
    obtain ⟨_, _, _, o, e, e2, _⟩ := ok b _ h
    exact fin PySem.F.slot_tuple_eq (dec_tuple e e2 hx' sub)
  | @dK b xs h =>
    cases (show u = Value.ref b from ry)
    obtain ⟨_, _, _, _, o, _, _, e, e2, _⟩ := ok b _ h
    exact fin PySem.F.slot_dict_eq (dec_dict e e2.1 hx' sub)
end
end MyG

set_option maxHeartbeats 2000000
/-! x in [y], both instances with an own __eq__. -/
namespace MyG
open PySem PySem.SeqAt
open AutoSeq1 (wpAny_loadPart')
open MeetsSeq MeetsSeq2 MeetsSeq3 SeqRoads2
section
variable {prog : Program} {w : World} {A : Around} {E : Value → Shared → Prop} {R : Result → Shared → Prop}
theorem end_loop {l : Addr} {items : Array Value} {x : Value} {i n : Nat} {s : Shared} (hl : s.heap.get? l = some { cls := .type "list", data := .seq items n }) (hi : items[i]? = none) (h : ∀ tk, R (.ok (.ret (.bool false))) { s with toks := tk }) :
    wpAny (model prog w) A.in1 (Builtin.«list.__contains__.loop» ⟨[.ref l, x, rawInt (i : Int)], []⟩) (GQ.FinOf prog w A R) (fun e s' => R (.error e) s') s := by
  obtain ⟨hp, g, d, tk, os⟩ := s
  wp_walk using wpAny_loadPart' hl
  have hi' : items[((i : Nat) : Int).toNat]? = none := by simpa using hi
  rw [hi']
  wp_walk
  exact h _
theorem one_loop {l : Addr} {items : Array Value} {u x : Value} {i n : Nat} {s : Shared} (hl : s.heap.get? l = some { cls := .type "list", data := .seq items n }) (hi : items[i]? = some u)
    (he : ∀ tk, wpAny (model prog w) A.in1 (eqBool u x) (fun k s' => (∃ (its : Array Value) (m : Nat), s'.heap.get? l = some { cls := .type "list", data := .seq its m } ∧ its[i + 1]? = none) ∧ ∀ tk', R (.ok (.ret (.bool k))) { s' with toks := tk' }) (fun e s' => R (.error e) s') { s with toks := tk }) :
    wpAny (model prog w) A.in1 (Builtin.«list.__contains__.loop» ⟨[.ref l, x, rawInt (i : Int)], []⟩) (GQ.FinOf prog w A R) (fun e s' => R (.error e) s') s := by
  obtain ⟨hp, g, d, tk, os⟩ := s
  wp_walk using wpAny_loadPart' hl
  have hi' : items[((i : Nat) : Int).toNat]? = some u := by simpa using hi
  rw [hi']
  refine wpAny_bind (wpAny_mono (he _) (fun k s' hk => ?_) fun _ _ e => e)
  obtain ⟨⟨its, m, hv, hn⟩, hR⟩ := hk
  cases k with
  | true =>
    obtain ⟨hp', g', d', tk', os'⟩ := s'
    wp_walk
    exact hR _
  | false =>
    obtain ⟨hp', g', d', tk', os'⟩ := s'
    have hc : ((i : Int) + 1) = ((i + 1 : Nat) : Int) := by push_cast; rfl
    wp_walk
    rw [hc]
    refine ⟨plainId_quiet plain_contains_loop _, codeAny_builtin entry_contains_loop ?_⟩
    rw [Around.under_plainId plain_contains_loop _]
    exact end_loop hv hn hR
theorem contains_one {l : Addr} {items : Array Value} {u x : Value} {n : Nat} {s : Shared} {Q : Value → Shared → Prop} (hl : s.heap.get? l = some { cls := .type "list", data := .seq items n }) (h0 : items[0]? = some u)
    (he : ∀ tk, wpAny (model prog w) A.in1 (eqBool u x) (fun k s' => (∃ (its : Array Value) (m : Nat), s'.heap.get? l = some { cls := .type "list", data := .seq its m } ∧ its[0 + 1]? = none) ∧ ∀ tk', Q (.bool k) { s' with toks := tk' }) E { s with toks := tk }) :
    wpAny (model prog w) A (compareOp .In x (.ref l)) Q E s := by
  show wpAny _ A (do return .bool (← contains (.ref l) x)) Q E s
  refine wpAny_bind (wpAny_contains_slot ⟨_, hl, rfl⟩ F.slot_list_contains (wpAny_mono (GQ.call_here (Q := fun v s' => ∃ k, v = .bool k ∧ ∀ tk', Q (.bool k) { s' with toks := tk' }) F.slot_list_contains ⟨_, hl, rfl⟩ F.entry_list_contains (F.args_list_contains_2 _ _) ?_) (fun v s' hv => ?_) fun _ _ e => e))
  · obtain ⟨hp, g, d, tk, os⟩ := s
    unfold Builtin.«list.__contains__»
    wp_walk
    refine ⟨plainId_quiet plain_contains_loop _, codeAny_builtin entry_contains_loop ?_⟩
    rw [Around.under_plainId plain_contains_loop _]
    exact one_loop (R := wants (fun v s' => ∃ k, v = .bool k ∧ ∀ tk', Q (.bool k) { s' with toks := tk' }) E) hl h0 (fun tk => wpAny_mono (he tk) (fun k s' hk => ⟨hk.1, fun tk' => ⟨k, rfl, hk.2⟩⟩) fun _ _ e => e)
  · obtain ⟨k, rfl, hq⟩ := hv
    exact wpAny_truthy_bool (wpAny_pure (hq _))
end
end MyG
namespace MyG
open PySem PySem.Spec PyProof.Rows L2 Evl
/-- x in [o]: o's own __eq__ is asked -/
def rInI (C : Addr) (sp : Sp) (E : XK) : R2 := fun x y H Q => ∃ a o p dx fs dy gs, x = .ref a ∧ y = .ref p ∧ H p = some (.lst [.ref o]) ∧ H a = some (.ins C dx fs) ∧ H o = some (.ins C dy gs) ∧ o ≠ a ∧
  sp [.ref o, .ref a] H (fun v H' => ∃ k, v = .bl k ∧ H' p = some (.lst [.ref o]) ∧ Q (.bl k) H') E
section
variable {X : Cx} {pins : List (Addr × Obj)} {σ : L2.St} {H : Hp} {s : Shared} {C f : Addr} {fd : FuncData} {ps : List Str} {n : Nat} {sp : Sp} {CX : CXT} {E : XK}
theorem op_inI (c : EqC X.K C f) (F : FnOk X.prog X.w X.K X.mg X.base CX n f fd ps sp) (room : Room (n + 1) X.A) (hb : Binds X.K fd ps []) (hx : Passes CX X E) : OpR X (compareOp .In) (rInI C sp E) := by
  intro pins s σ H x y v u Q I rx ry h
  obtain ⟨a, o, p, dx, fs, dy, gs, rfl, rfl, hp, ha, ho, hne, hs⟩ := h
  cases rx
  cases ry
  obtain ⟨_, us, k, rr, e⟩ := I.hok p _ hp
  obtain ⟨u0, rfl, h0⟩ : ∃ u0, us = [u0] ∧ u0 = Value.ref o := by
    cases rr with
    | cons r t =>
      cases t
      cases r
      exact ⟨_, rfl, rfl⟩
  subst h0
  refine contains_one (items := _) e (u := .ref o) rfl (fun tk => ?_)
  have I' := I.tok tk
  obtain ⟨mB, J, _⟩ := ins_get I'.hok ho
  obtain ⟨od, J, _⟩ := J.look
  obtain ⟨mA, J2, _⟩ := ins_get I'.hok ha
  obtain ⟨od2, J2, _⟩ := J2.look
  obtain ⟨m, hF⟩ := I'.fr
  refine GQ.eqBool_refG hne ?_
  refine PySem.W.cmp_K (op := .Eq) (tb := .ref C) room.in1.units0 hF I'.ok.mod.kin J J2.type (by simp [PySem.W.notFirst]) c.he c.hf ?_
  refine wpAny_mono (run_eq F room.in1 rfl hb hx I' (y := .ref a) (show RelV (V.ref a) (Value.ref a) from rfl) hs) (fun w s' hw => ?_) fun _ _ e => e
  obtain ⟨z, H', I'', rz, k, rfl, hl, hq⟩ := hw
  cases rz
  obtain ⟨_, vs, m', rr', e'⟩ := I''.hok p _ hl
  refine ⟨k, rfl, ⟨_, _, e', ?_⟩, fun tk' => ⟨.bl k, H', I''.tok tk', rfl, hq⟩⟩
  cases rr' with
  | cons r t =>
    cases t
    rfl
end
end MyG

set_option maxHeartbeats 2000000
/-! isinstance of an own class, data alike, lists cut. -/
namespace MyG
open PySem PySem.Spec PyProof.Rows L2 Evl
/-- what isinstance asks of a class -/
structure IsiC (K : PySem.W.Frag) (C : Addr) : Prop where
  ca : PySem.W.findIn K (.ref C) "__class__" = some (some (.builtin "object.__class__"))
  cn : PySem.W.specialIn K (.builtin "object.__class__") "__get__" = some (some (.builtin "getset_descriptor.__get__"))
  ct : PySem.W.takesIn K (.builtin "object.__class__") = some true
  cm : PySem.W.mroIn K C (.type "object") = some true
  ko : ∀ T ∈ kinds7, PySem.W.kitOne K (.type T) (.ref C) = some false
theorem all7 {P : String → Prop} (h1 : P "NoneType") (h2 : P "bool") (h3 : P "int") (h4 : P "str") (h5 : P "list") (h6 : P "tuple") (h7 : P "dict") : ∀ T ∈ kinds7, P T := by
  intro T h
  simp only [kinds7, List.mem_cons, List.not_mem_nil, or_false] at h
  rcases h with rfl | rfl | rfl | rfl | rfl | rfl | rfl <;> assumption
theorem kit_self {K : PySem.W.Frag} {C : Addr} : PySem.W.kitOne K (.ref C) (.ref C) = some true := by
  unfold PySem.W.kitOne
  rw [if_pos (beq_self_eq_true _)]
theorem isi_ins {K : PySem.W.Frag} {H : Hp} {C a dx : Addr} {fs : List (Str × V)} {Q : VK} (q : IsiC K C) (cl : Cls K C) (h : H a = some (.ins C dx fs)) (k : Q (.bl true) H) : rIsi K [.ref a, .ref C] H Q :=
  ⟨.ref a, .ref C, .ref C, .ref C, true, rfl, .own C, .base (.ins h cl q.ca q.cn q.ct q.cm), kit_self, k⟩
theorem isi_no {K : PySem.W.Frag} {H : Hp} {C : Addr} {x : V} {t : String} {Q : VK} (q : IsiC K C) (h : AnyT H x t) (k : Q (.bl false) H) : rIsi K [x, .ref C] H Q :=
  ⟨x, .ref C, .type t, .ref C, false, rfl, .own C, h.ty, q.ko t h.mem, k⟩
theorem revLK {X : Cx} {K : PySem.W.Frag} {e : Expr} {te : TE} {k : Nat} {p1 p2 p3 pos : Pos} (h : X.K = K) (he : PE X e te) : PE X (.Subscript e (.Slice none none (some (.UnaryOp .USub (.Constant (.int 1) k p1) p2)) p3) pos) (tRevL K te) := by subst h; exact pe_revL he
/-! ### data alike -/
theorem eqv_int (a b : Int) : PyData.eqv (.int a) (.int b) = decide (a = b) := by
  unfold PyData.eqv
  first | rfl | simp
theorem eqvAll_ints : ∀ ns ms : List Int, PyData.eqvAll (ns.map PyData.int) (ms.map PyData.int) = decide (ns = ms)
  | [], [] => by simp [PyData.eqvAll]
  | [], m :: ms => by simp [PyData.eqvAll]
  | n :: ns, [] => by simp [PyData.eqvAll]
  | n :: ns, m :: ms => by
    simp only [List.map_cons, PyData.eqvAll, eqvAll_ints ns ms, eqv_int]
    by_cases h : n = m <;> simp [h]
theorem eqv_ints (ns ms : List Int) : PyData.eqv (.list (ns.map PyData.int)) (.list (ms.map PyData.int)) = decide (ns = ms) := by
  rw [← eqvAll_ints]
  simp only [PyData.eqv]
end MyG

set_option maxHeartbeats 2000000
/-! More values that are known: len, list, sorted, repr, lists put together. -/
namespace MyG
open PySem PySem.Spec PyProof.Rows L2 Evl
section
variable {K : PySem.W.Frag} {σ : L2.St} {H : Hp} {ta tb te : TE}
theorem ev_lenQ {p : Addr} {xs : List V} (ha : Ev te σ H (.ref p)) (h : H p = some (.lst xs)) : Ev (tCB (rLenQ K) (tCons te tNil)) σ H (.int (xs.length : Int)) := fun H1 e Q q =>
  ha H1 e _ fun H2 e2 => ⟨p, xs, rfl, .inl (SqL.of ((e.trans e2) _ _ h)), q H2 e2⟩
theorem el_cat {a : Addr} {xs zs : List V} (h1 : Ev ta σ H (.ref a)) (ha : H a = some (.lst xs)) (h2 : ∀ H1, Ex H H1 → EvL tb σ H1 zs) (hl : xs.length + zs.length ≤ 1000) : EvL (tOp rCat ta tb) σ H (xs ++ zs) := fun H1 e Q q =>
  h1 H1 e _ fun H2 e2 => h2 H2 (e.trans e2) H2 (Ex.refl _) _ fun p H3 hp e3 h3 => ⟨a, p, xs, zs, rfl, rfl, e3 _ _ (e2 _ _ (e _ _ ha)), h3, Nat.le_of_lt (small1000 hl), fun t ht => q t _ (fresh_back (e2.trans e3) ht) ((e2.trans e3).trans (Ex.new ht)) upd_same⟩
theorem un_tup {as : TA} {Q : VK} (h : as σ H fun xs H1 => xs.length ≤ sizeLine ∧ ∀ p, H1 p = none → Q (.ref p) (upd H1 p (.tup xs))) : tTup as σ H Q := h
theorem el_listQ {p : Addr} {xs : List V} (ha : Ev te σ H (.ref p)) (h : H p = some (.lst xs)) : EvL (tCB (rListQ K) (tCons te tNil)) σ H xs := fun H1 e Q q =>
  ha H1 e _ fun H2 e2 => ⟨p, xs, rfl, .inl (SqL.of ((e.trans e2) _ _ h)), fun l hl => q l _ (fresh_back e2 hl) (e2.trans (Ex.new hl)) upd_same⟩
theorem el_revL {p : Addr} {xs : List V} (ha : Ev te σ H (.ref p)) (h : H p = some (.lst xs)) : EvL (tRevL K te) σ H xs.reverse := fun H1 e Q q =>
  ha H1 e _ fun H2 e2 => ⟨p, xs, rfl, SqL.of ((e.trans e2) _ _ h), fun l hl => q l _ (fresh_back e2 hl) (e2.trans (Ex.new hl)) upd_same⟩
theorem el_sorted {p : Addr} {ns qs : List Int} (ha : Ev te σ H (.ref p)) (h : H p = some (.lst (ns.map V.int))) (hl : ns.length < 64) (pm : qs.Perm ns) (so : qs.Pairwise (· ≤ ·)) : EvL (tCB (rSorted K) (tCons te tNil)) σ H (qs.map V.int) := fun H1 e Q q =>
  ha H1 e _ fun H2 e2 => ⟨p, ns, rfl, SqL.of ((e.trans e2) _ _ h), hl, fun ns' l pm' so' hl' => by
    obtain rfl : ns' = qs := PySem.W.ksm_same (pm'.trans pm.symm) so' so
    exact q l _ (fresh_back e2 hl') (e2.trans (Ex.new hl')) upd_same⟩
theorem ev_reprL {xs : List V} {ds : List PyData} {k L : Nat} (ha : EvL te σ H xs) (hd : ∀ H1, Ex H H1 → DpAll K H1 xs ds) (s : Small (.list ds) k L) (hk : k ≤ 40 := by decide) (hL : L ≤ 16000000 := by decide) : Ev (tCB (rReprD K) (tCons te tNil)) σ H (.str (PyData.shown (.list ds))) := fun H1 e Q q =>
  ha H1 e _ fun p H2 hp e2 h2 => ⟨.ref p, .list ds, rfl, .lst (SqL.of h2) (hd H2 (e.trans e2)), s.sh, s.nd, Nat.le_trans s.dp hk, Nat.le_trans (Nat.le_trans s.ln hL) (by rw [sizeLine_eq]; decide), q H2 e2⟩
theorem ev_repr {x : V} {d : PyData} {k L : Nat} (ha : Ev te σ H x) (hd : ∀ H1, Ex H H1 → Dp K H1 x d) (s : Small d k L) (hk : k ≤ 40 := by decide) (hL : L ≤ 16000000 := by decide) : Ev (tCB (rReprD K) (tCons te tNil)) σ H (.str (PyData.shown d)) := fun H1 e Q q =>
  ha H1 e _ fun H2 e2 => ⟨x, d, rfl, hd H2 (e.trans e2), s.sh, s.nd, Nat.le_trans s.dp hk, Nat.le_trans (Nat.le_trans s.ln hL) (by rw [sizeLine_eq]; decide), q H2 e2⟩
theorem dp_bls {H : Hp} : ∀ bs : List Bool, DpAll K H (bs.map V.bl) (bs.map PyData.bool)
  | [] => .nil
  | b :: bs => .cons (.bl b) (dp_bls bs)
end
theorem cut_lo (xs : List V) {k : Nat} (h : k ≤ xs.length) : cutV xs none (some (k : Int)) = xs.take k := by
  unfold cutV
  rw [HT.sIx_none, HT.sIx_nat, List.drop_zero]
  congr 1
  omega
theorem cut_hi (xs : List V) {k : Nat} (h : k ≤ xs.length) : cutV xs (some (k : Int)) none = xs.drop k := by
  unfold cutV
  rw [HT.sIx_none, HT.sIx_nat, show min k xs.length = k by omega]
  rw [List.take_of_length_le (by rw [List.length_drop]; omega)]
theorem small_bool (b : Bool) : Small (.bool b) 0 10 := by
  refine ⟨rfl, rfl, Nat.le_refl _, ?_, rfl⟩
  cases b <;> decide +kernel
theorem small_bools {bs : List Bool} {N : Nat} (hl : bs.length ≤ N) : Small (.list (bs.map PyData.bool)) 1 (N * 12 + 3) := by
  have h := small_list (k := 0) (L := 10) (ds := bs.map PyData.bool) (fun d hd => by
    obtain ⟨x, _, rfl⟩ := List.mem_map.mp hd
    exact small_bool x)
  refine h.mono (Nat.le_refl _) ?_
  rw [List.length_map]
  have := Nat.mul_le_mul_right 12 hl
  omega
end MyG

set_option maxHeartbeats 2000000
/-! Texts: a text times a number, join with the written part named, f(k = v); words of rows, rows of texts. -/
namespace MyG
open PySem PySem.Spec PyProof.Rows L2 Evl
section
variable {X : Cx}
/-- a text times an int -/
def rMulS : R2 := fun x y H Q => ∃ a k, x = .str a ∧ y = .int k ∧ MulOk a k ∧ Q (.str (Txt.mul a k)) H
theorem op_mulS : OpR X (binaryOp .Mult) rMulS := by
  intro pins s σ H x y v u Q I rx ry h
  obtain ⟨a, k, rfl, rfl, hok, q⟩ := h
  obtain ⟨t, rfl⟩ := rx
  obtain ⟨t2, rfl⟩ := ry
  exact SB.mul hok fun t' k' => ⟨.str _, H, I.tok _, ⟨_, rfl⟩, q⟩
def rJoinK (K : PySem.W.Frag) : V → List V → Hp → VK → Prop := fun x xs H Q => ∃ a p, ∃ ys : List Str, x = .str a ∧ xs = [.ref p] ∧ (SqL K H p (ys.map V.str) ∨ SqT K H p (ys.map V.str)) ∧
      (ys.map (·.length)).sum + ys.length * a.length ≤ 16777216 ∧ Q (.str (Txt.join a ys)) H
theorem joinK {K : PySem.W.Frag} {o e : Expr} {to te : TE} {apos pos : Pos} (h : X.K = K) (ho : PE X o to) (he : PE X e te) (hs : starEach [e] X.env = [(false, eval e X.env)] := by rfl) (hbase : attributeBase o "join" X.env (eval o X.env) = eval o X.env := by rfl) (hline : (apos.endLine == pos.line) = true := by rfl) :
    PE X (.Call (.Attribute o "join" apos) [e] [] pos) (tM1 (rJoinK K) to te) := by
  subst h
  exact pe_join ho he hs hbase hline
end
section
variable {X : Cx} {CX : CXT} {k : Nat} {f : Addr} {fd : FuncData} {ps ks : List Str} {sp : Sp} {E : XK} {x : Str} {p pos : Pos} {tk : TA} {kws : List Keyword} {g : List Value → List Value → List Value} {gV : List V → List V → List V}
/-- f(k = v, ..): keywords alone -/
def tCallK0 (n : Nat) (sp : Sp) (gV : List V → List V → List V) (E : XK) (tk : TA) : TE := fun σ H Q => tk σ H fun zs H2 => zs.length = n ∧ sp (gV [] zs) H2 Q E
theorem pe_callK0 (F : FnOk X.prog X.w X.K X.mg X.base CX k f fd ps sp) (room : Room k X.A) (hg : Gl X x) (hm : X.mg x = some (.ref f)) (hk : PySem.W.keepIn X.K (.ref f) = true) (hb : KBn X.K fd ps 0 ks g gV) (hx : Passes CX X E) (hkw : PK X kws tk)
    (hall : (backToKw pos (keywordEach kws X.env)).all (·.1.isSome) = true := by rfl) (hks : (backToKw pos (keywordEach kws X.env)).filterMap (·.1) = ks := by rfl) (hdb : (x == ("__debug__" : Str)) = false := by decide)
    (hpl : ((backTo pos (starEach [] X.env)).any (·.1) || (backToKw pos (keywordEach kws X.env)).any (·.1.isNone)) = false := by rfl) :
    PE X (.Call (.Name x p) [] kws pos) (tCallK0 ks.length sp gV E tk) := by
  constructor
  intro pins s σ H Q I h
  refine wpAny_Call_Name_kw (ld_glob I hg hm (PySem.W.callWith_KW0 (h₀ := X.base) I.ok.mod.kin hk hall (thn (hkw.run pos pins s σ H _ I h) ?_) hpl) hdb)
  rintro ws s2 ⟨zs, H2, I2, rz, l2, hs⟩
  refine ⟨I2.kIn, ?_⟩
  rw [hks]
  exact run_fnN (us := []) (vs := []) F room hb hx I2 .nil rz rfl l2 hs
end
/-! ### words of a row -/
open TL
def wordsL (l : List Nat) : List (List Nat) := (spl [32] 0 [] l).filter (fun w => !w.isEmpty)
theorem pre32 (c : Nat) (r : List Nat) : pre [32] (c :: r) = (c == 32) := by
  unfold pre
  simp only [List.length_singleton, List.take_succ_cons, List.take_zero]
  by_cases h : c = 32
  · subst h; rfl
  · have e : (c == 32) = false := by simpa using h
    rw [e]
    simp [h]
theorem wordsL_blank (l : List Nat) : wordsL (32 :: l) = wordsL l := by
  unfold wordsL
  rw [spl_hit (by rw [pre32]; rfl)]
  rfl
theorem wordsL_blanks : ∀ (k : Nat) (l : List Nat), wordsL (List.replicate k 32 ++ l) = wordsL l
  | 0, l => rfl
  | k + 1, l => by
    rw [List.replicate_succ, List.cons_append, wordsL_blank, wordsL_blanks k l]
theorem wordsL_word {w l : List Nat} (h : 32 ∉ w) (hne : w ≠ []) : wordsL (w ++ 32 :: l) = w :: wordsL l := by
  unfold wordsL
  rw [show w ++ 32 :: l = w ++ ([32] ++ l) from rfl, spl_part1 (s := 32) (S := []) h, List.nil_append, List.filter_cons, if_pos (by cases w; exact absurd rfl hne; rfl)]
theorem wordsL_one {w : List Nat} (h : 32 ∉ w) (hne : w ≠ []) : wordsL w = [w] := by
  unfold wordsL
  rw [spl_last1 (s := 32) (S := []) h, List.nil_append, List.filter_cons, if_pos (by cases w; exact absurd rfl hne; rfl)]
  rfl
theorem wordsL_nil : wordsL [] = [] := rfl
theorem spl_snoc : ∀ (l acc : List Nat), spl [32] 0 acc (l ++ [32]) = spl [32] 0 acc l ++ [[]]
  | [], acc => by
    rw [List.nil_append, spl_hit (by rw [pre32]; rfl), spl_nil, spl_nil]
    rfl
  | c :: r, acc => by
    by_cases h : c = 32
    · subst h
      rw [List.cons_append, spl_hit (by rw [pre32]; rfl), spl_hit (by rw [pre32]; rfl)]
      show acc :: spl [32] 0 [] (r ++ [32]) = acc :: spl [32] 0 [] r ++ [[]]
      rw [spl_snoc r []]
      rfl
    · have e : pre [32] (c :: r) = false := by rw [pre32]; simpa using h
      have e' : pre [32] (c :: (r ++ [32])) = false := by rw [pre32]; simpa using h
      rw [List.cons_append, spl_miss e', spl_miss e, spl_snoc r (acc ++ [c])]
theorem wordsL_end (l : List Nat) : wordsL (l ++ [32]) = wordsL l := by
  unfold wordsL
  rw [spl_snoc, List.filter_append]
  simp
theorem wordsL_ends : ∀ (k : Nat) (l : List Nat), wordsL (l ++ List.replicate k 32) = wordsL l
  | 0, l => by rw [List.replicate_zero, List.append_nil]
  | k + 1, l => by
    rw [List.replicate_succ', ← List.append_assoc, wordsL_end, wordsL_ends k l]
theorem wordsL_join : ∀ {ws : List (List Nat)}, (∀ w ∈ ws, 32 ∉ w ∧ w ≠ []) → wordsL (joinL [32] ws) = ws
  | [], _ => rfl
  | [w], h => by
    have k := h w (List.mem_singleton.mpr rfl)
    exact wordsL_one k.1 k.2
  | w :: v :: r, h => by
    have k := h w (List.mem_cons_self ..)
    show wordsL (w ++ (32 :: joinL [32] (v :: r))) = _
    rw [wordsL_word k.1 k.2, wordsL_join fun z hz => h z (List.mem_cons_of_mem _ hz)]
/-- rstrip(" ") takes blanks away, nothing else -/
theorem rstrip_blanks (x y : Str) (hy : tl y = [32]) : ∃ k, tl x = tl (Txt.rstripChars x y) ++ List.replicate k 32 := by
  have hy' : y = ⟨#[32]⟩ := ext_tl (by rw [hy])
  subst hy'
  unfold Txt.rstripChars
  rw [stripBy_eq]
  have f := hi_facts (Array.contains #[32]) x 0 (Nat.zero_le _)
  have lo0 : stripLo (Array.contains #[32]) false x = 0 := rfl
  rw [lo0]
  obtain ⟨_, h2, h3, _⟩ := f
  generalize stripHi (Array.contains #[32]) true x 0 = j at h2 h3
  refine ⟨x.length - j, ?_⟩
  have e : tl (Builtin.Str.strSub x 0 j) = (tl x).take j := by
    show (Builtin.Str.strSub x 0 j).cps.toList = _
    rw [PySem.StrLaws.strSub_toList, List.drop_zero, Nat.sub_zero]
  rw [e]
  have hx : x.length = (tl x).length := len_tl x
  refine (List.take_append_drop j (tl x)).symm.trans (congrArg _ ?_)
  refine List.ext_getElem (by rw [List.length_drop, List.length_replicate]; omega) (fun i h1 h4 => ?_)
  rw [List.getElem_drop, List.getElem_replicate]
  rw [List.length_drop] at h1
  have k := h3 (j + i) (by omega) (by omega)
  have g : x.cps.getD (j + i) 0 = (tl x)[j + i]'(by omega) := by
    rw [← getD_list, List.getD_eq_getElem?_getD, List.getElem?_eq_getElem (by show j + i < (tl x).length; omega)]
    rfl
  rw [g] at k
  simpa using k
/-! ### numbers as figures -/
theorem numL_head {n : Nat} (h : n ≠ 0) : ∃ c r, numL n = c :: r ∧ c ≠ 48 := by
  induction n using Nat.strongRecOn with
  | _ n ih =>
    by_cases h10 : n < 10
    · exact ⟨48 + n, [], numL_lt h10, by omega⟩
    · obtain ⟨c, r, e, hc⟩ := ih (n / 10) (by omega) (by omega)
      exact ⟨c, r ++ [48 + n % 10], by rw [numL_step (by omega), e]; rfl, hc⟩
end MyG
namespace MyG
open PySem PySem.Spec PyProof.Rows L2 Evl
section
variable {X : Cx} {K : PySem.W.Frag}
def tTruth (K : PySem.W.Frag) (ta : TE) : TT := fun σ H Q => ta σ H fun x H' => ∃ k, TruV K x H' k ∧ Q k H'
theorem truthK {a : Expr} {ta : TE} (h : X.K = K) (ha : PE X a ta) (he : ∀ whole, isTrue a X.env whole = (do let v ← whole; standAt a.pos; holding [v] (truthy v))) : PT X a (tTruth K ta) := by
  subst h
  exact pt_truth ha he
def rTupOfK (K : PySem.W.Frag) : List V → Hp → VK → Prop := fun xs H Q => ∃ p ys, xs = [.ref p] ∧ ((SqL K H p ys ∧ ∀ l, H l = none → Q (.ref l) (upd H l (.tup ys))) ∨ (SqT K H p ys ∧ Q (.ref p) H))
theorem tupleK (h : X.K = K) : CallR X (.type "tuple") (rTupOfK K) := by subst h; exact call_tuple_of
end
end MyG
namespace MyG
open PySem PySem.Spec PyProof.Rows L2 Evl TL
abbrev HALL : List Nat := [104, 97, 108, 108]
abbrev LINK : List Nat := [108, 105, 110, 107]
def hallW (p : Int) : List (List Nat) := [HALL, numL p.toNat]
def linkW (r : Int × Int × Int) : List (List Nat) := [LINK, numL r.1.toNat, numL r.2.1.toNat, numL r.2.2.toNat]
def writtenL (ps : List Int) (rs : List (Int × Int × Int)) : List Nat := ((ps.map hallW ++ rs.map linkW).map (fun w => joinL [32] w ++ [10])).flatten
/-- a text's rows, as words, those without words left out -/
def linesL (l : List Nat) : List (List (List Nat)) := ((spl [10] 0 [] l).map wordsL).filter (fun w => !w.isEmpty)
theorem given_filter {α : Type} (p : α → Bool) (g : α → V) : ∀ ys : List α, given ys.length (fun i => (ys[i]?.map p).getD false) (fun i => (ys[i]?.map g).getD .non) = (ys.filter p).map g
  | [] => rfl
  | y :: r => by
    have ih := given_filter p g r
    unfold given at ih ⊢
    rw [List.length_cons, List.range_succ_eq_map, List.filter_cons, List.filter_map]
    cases hp : p y with
    | true =>
      rw [if_pos (by simp [hp]), List.filter_cons, if_pos hp, List.map_cons, List.map_cons, List.map_map, ← ih]
      congr 1
    | false =>
      rw [if_neg (by simp [hp]), List.filter_cons, if_neg (by rw [hp]; exact Bool.false_ne_true), List.map_map, ← ih]
      congr 1
theorem split_tl (z y : Str) {c : Nat} (hy : tl y = [c]) (hc : c < 256) : (Txt.split z y).map tl = spl [c] 0 [] (tl z) := by
  rw [split_spl z y (by rw [hy]; simp) (kind_ok (by
    have : y = ⟨#[c]⟩ := ext_tl hy
    subst this
    simpa using hc)), hy]
theorem words_tl (z y : Str) (hy : tl y = [32]) : ((Txt.split z y).filter fun w => w.length != 0).map tl = wordsL (tl z) := by
  unfold wordsL
  rw [← split_tl z y hy (by decide), List.filter_map]
  congr 1
  refine List.filter_congr fun w _ => ?_
  show (w.length != 0) = !(tl w).isEmpty
  rw [len_tl]
  cases tl w <;> rfl
theorem spl_lines {parts : List (List Nat)} (hne : parts ≠ []) (h : ∀ p ∈ parts, 10 ∉ p) : spl [10] 0 [] (joinL [10] parts) = parts := spl_join (s := 10) (S := []) hne h
theorem joinL_end : ∀ ps : List (List Nat), (ps.map (fun w => w ++ [10])).flatten = joinL [10] (ps ++ [[]])
  | [] => rfl
  | [p] => by simp [joinL]
  | p :: q :: r => by
    have ih := joinL_end (q :: r)
    rw [List.map_cons, List.flatten_cons, ih]
    show p ++ [10] ++ joinL [10] ((q :: r) ++ [[]]) = p ++ ([10] ++ joinL [10] ((q :: r) ++ [[]]))
    rw [List.append_assoc]
theorem hallW_ok (p : Int) : ∀ w ∈ hallW p, 32 ∉ w ∧ w ≠ [] ∧ 10 ∉ w := by
  intro w hw
  simp only [hallW, List.mem_cons, List.not_mem_nil, or_false] at hw
  rcases hw with rfl | rfl
  · decide
  · exact ⟨numL_free (by decide), numL_ne _, numL_free (by decide)⟩
theorem linkW_ok (r : Int × Int × Int) : ∀ w ∈ linkW r, 32 ∉ w ∧ w ≠ [] ∧ 10 ∉ w := by
  intro w hw
  simp only [linkW, List.mem_cons, List.not_mem_nil, or_false] at hw
  rcases hw with rfl | rfl | rfl | rfl
  · decide
  all_goals exact ⟨numL_free (by decide), numL_ne _, numL_free (by decide)⟩
theorem rowW_ok {ps : List Int} {rs : List (Int × Int × Int)} {ws : List (List Nat)} (h : ws ∈ ps.map hallW ++ rs.map linkW) : (∀ w ∈ ws, 32 ∉ w ∧ w ≠ [] ∧ 10 ∉ w) ∧ ws ≠ [] := by
  rcases List.mem_append.mp h with h | h
  · obtain ⟨p, _, rfl⟩ := List.mem_map.mp h
    exact ⟨hallW_ok p, by simp [hallW]⟩
  · obtain ⟨r, _, rfl⟩ := List.mem_map.mp h
    exact ⟨linkW_ok r, by simp [linkW]⟩
theorem joinL_free {c : Nat} (hc : c ≠ 32) : ∀ {ws : List (List Nat)}, (∀ w ∈ ws, c ∉ w) → c ∉ joinL [32] ws
  | [], _ => by simp [joinL]
  | [w], h => h w (List.mem_singleton.mpr rfl)
  | w :: v :: r, h => by
    show c ∉ w ++ ([32] ++ joinL [32] (v :: r))
    have ih := joinL_free hc fun z hz => h z (List.mem_cons_of_mem w hz)
    simp only [List.mem_append, List.mem_singleton, not_or]
    exact ⟨h w (List.mem_cons_self ..), hc, ih⟩
/-- lines whose words are W -/
theorem linesL_of {parts : List (List Nat)} {W : List (List (List Nat))} (hne : parts ≠ []) (h : ∀ p ∈ parts, 10 ∉ p) (hw : (parts.map wordsL).filter (fun w => !w.isEmpty) = W) : linesL (joinL [10] parts) = W := by
  unfold linesL
  rw [spl_lines hne h, hw]
theorem rows_words {W : List (List (List Nat))} (h : ∀ ws ∈ W, (∀ w ∈ ws, 32 ∉ w ∧ w ≠ [] ∧ 10 ∉ w) ∧ ws ≠ []) : ((W.map (joinL [32])).map wordsL).filter (fun w => !w.isEmpty) = W := by
  rw [List.map_map]
  have e : W.map (wordsL ∘ joinL [32]) = W := by
    refine (List.map_congr_left (g := id) fun ws hws => ?_).trans (List.map_id _)
    exact wordsL_join fun w hw => ⟨((h ws hws).1 w hw).1, ((h ws hws).1 w hw).2.1⟩
  rw [e]
  exact List.filter_eq_self.mpr fun ws hws => by
    have := (h ws hws).2
    cases ws
    · exact absurd rfl this
    · rfl
end MyG
namespace MyG
open PySem TL
theorem pre1 (c d : Nat) (r : List Nat) : pre [c] (d :: r) = (d == c) := by
  unfold pre
  simp only [List.length_singleton, List.take_succ_cons, List.take_zero]
  by_cases h : d = c
  · subst h; simp
  · have e : (d == c) = false := by simpa using h
    rw [e]
    simp [h]
theorem spl_many (c : Nat) : ∀ (l acc : List Nat), (spl [c] 0 acc l).length ≤ l.length + 1
  | [], acc => by rw [spl_nil]; exact Nat.le_refl _
  | d :: r, acc => by
    cases h : pre [c] (d :: r) with
    | true =>
      rw [spl_hit h]
      have := spl_many c r []
      show (spl [c] 0 [] r).length + 1 ≤ r.length + 1 + 1
      omega
    | false =>
      rw [spl_miss h, List.length_cons]
      have := spl_many c r (acc ++ [d])
      omega
theorem spl_short (c : Nat) : ∀ (l acc : List Nat), ∀ p ∈ spl [c] 0 acc l, p.length ≤ acc.length + l.length
  | [], acc => by
    rw [spl_nil]
    intro p hp
    rw [List.mem_singleton.mp hp]
    exact Nat.le_refl _
  | d :: r, acc => by
    intro p hp
    cases h : pre [c] (d :: r) with
    | true =>
      rw [spl_hit h] at hp
      rw [List.length_cons]
      rcases List.mem_cons.mp hp with rfl | hp
      · omega
      · have := spl_short c r [] p hp
        rw [List.length_nil] at this
        omega
    | false =>
      rw [spl_miss h] at hp
      have := spl_short c r (acc ++ [d]) p hp
      rw [List.length_append, List.length_singleton] at this
      rw [List.length_cons]
      omega
theorem split_bounds (z y : Str) {c : Nat} (hy : tl y = [c]) (hc : c < 256) : (Txt.split z y).length ≤ z.length + 1 ∧ ∀ w ∈ Txt.split z y, w.length ≤ z.length := by
  have e := split_tl z y hy hc
  refine ⟨?_, fun w hw => ?_⟩
  · have := spl_many c (tl z) []
    rw [← e, List.length_map] at this
    rw [len_tl z]
    exact this
  · have := spl_short c (tl z) [] (tl w) (by rw [← e]; exact List.mem_map_of_mem hw)
    rw [len_tl w, len_tl z]
    simpa using this
end MyG
namespace MyG
open PySem PySem.Spec PyProof.Rows L2 Evl
theorem given_all' (ys : List V) : given ys.length (fun _ => true) (fun i => ys.getD i .non) = ys := by
  unfold given
  rw [List.filter_eq_self.mpr (fun _ _ => rfl)]
  refine List.ext_getElem (by simp) (fun i h1 h2 => ?_)
  rw [List.getElem_map, List.getElem_range, List.getD_eq_getElem?_getD, List.getElem?_eq_getElem h2]
  rfl
theorem el_mapN {K : PySem.W.Frag} {σ : L2.St} {H : Hp} {te : TE} {xs ys : List V} {tl : TE} {j : Nat} {vs : List Nat} (h : EvL tl σ H xs) (hz : xs.length ≤ 40000) (hl : ys.length = xs.length)
    (hw : ∀ x, wipe ((wipe σ vs).set j (some x)) vs = wipe σ vs) (he : ∀ (i : Nat) (x y : V) H1, Ex H H1 → xs[i]? = some x → ys[i]? = some y → Ev te ((wipe σ vs).set j (some x)) H1 y) : EvL (tLc (iList K tl) (gName j) tYes te vs) σ H ys := by
  have k := el_lcNL (K := K) (t := tYes) (te := te) (fun _ => true) (fun i => ys.getD i .non) h hz hw (fun i x H1 e hi => fun H1 _ _ q => q H1 (Ex.refl H1)) (fun i x H1 e hi _ => by
    have h1 := (List.getElem?_eq_some_iff.mp hi).1
    have h2 : i < ys.length := by omega
    rw [show ys.getD i .non = ys[i] by rw [List.getD_eq_getElem?_getD, List.getElem?_eq_getElem h2]; rfl]
    exact he i x _ H1 e hi (List.getElem?_eq_getElem h2))
  rw [← hl, given_all'] at k
  exact k
end MyG
namespace MyG
open PySem PySem.Spec PyProof.Rows L2 Evl TL
def numS (i : Int) : Str := Str.ofString (toString i)
theorem tl_numS {i : Int} (h : 0 ≤ i) : tl (numS i) = numL i.toNat := by
  obtain ⟨n, rfl⟩ : ∃ n : Nat, i = (n : Int) := ⟨i.toNat, by omega⟩
  exact tl_num n
theorem numS_len {i : Int} (h : 0 ≤ i) (h2 : i < 10000) : (numS i).length ≤ 4 := by
  rw [len_tl, tl_numS h]
  exact numL_len (k := 4) (by decide) (by omega)
theorem log_small {i : Int} (h : 0 ≤ i) (h2 : i < 10000) : i.natAbs.log2 < 1920 := by
  by_cases z : i.natAbs = 0
  · rw [z]; decide
  · exact (Nat.log2_lt z).mpr (Nat.lt_of_lt_of_le (show i.natAbs < 10000 by omega) (by decide +kernel))
/-- f"hall {p}\n", f"link {..} {..} {..}\n" -/
def hallF (p : Int) : Str := Str.empty ++ "hall " ++ numS p ++ "\n"
def linkF (r : Int × Int × Int) : Str := Str.empty ++ "link " ++ numS r.1 ++ " " ++ numS r.2.1 ++ " " ++ numS r.2.2 ++ "\n"
/-- "hall " + str(p), " ".join(["link", ..]) -/
def hallR (p : Int) : Str := "hall " ++ numS p
def linkR (r : Int × Int × Int) : Str := Txt.join " " ["link", numS r.1, numS r.2.1, numS r.2.2]
theorem tl_h : tl ("hall " : Str) = [104, 97, 108, 108, 32] := by decide +kernel
theorem tl_l : tl ("link " : Str) = [108, 105, 110, 107, 32] := by decide +kernel
theorem tl_lk : tl ("link" : Str) = [108, 105, 110, 107] := by decide +kernel
theorem tl_b : tl (" " : Str) = [32] := by decide +kernel
theorem tl_n : tl ("\n" : Str) = [10] := by decide +kernel
theorem tl_e : tl Str.empty = [] := rfl
theorem tl_hallF {p : Int} (h : 0 ≤ p) : tl (hallF p) = joinL [32] (hallW p) ++ [10] := by
  unfold hallF
  rw [tl_append, tl_append, tl_append, tl_e, tl_h, tl_n, tl_numS h]
  rfl
theorem tl_hallR {p : Int} (h : 0 ≤ p) : tl (hallR p) = joinL [32] (hallW p) := by
  unfold hallR
  rw [tl_append, tl_h, tl_numS h]
  rfl
theorem tl_linkF {r : Int × Int × Int} (h1 : 0 ≤ r.1) (h2 : 0 ≤ r.2.1) (h3 : 0 ≤ r.2.2) : tl (linkF r) = joinL [32] (linkW r) ++ [10] := by
  unfold linkF
  rw [tl_append, tl_append, tl_append, tl_append, tl_append, tl_append, tl_append, tl_e, tl_l, tl_n, tl_b, tl_numS h1, tl_numS h2, tl_numS h3]
  simp [linkW, joinL]
theorem tl_linkR {r : Int × Int × Int} (h1 : 0 ≤ r.1) (h2 : 0 ≤ r.2.1) (h3 : 0 ≤ r.2.2) : tl (linkR r) = joinL [32] (linkW r) := by
  unfold linkR
  rw [join_eq, tl_join, tl_b]
  simp only [List.map_cons, List.map_nil, tl_lk, tl_numS h1, tl_numS h2, tl_numS h3]
  rfl
theorem joinL_nil : ∀ ps : List (List Nat), joinL [] ps = ps.flatten
  | [] => rfl
  | [p] => by simp [joinL]
  | p :: q :: r => by
    show p ++ ([] ++ joinL [] (q :: r)) = _
    rw [joinL_nil (q :: r), List.nil_append]
    rfl
theorem sum_bound {N : Nat} : ∀ {ys : List Str}, (∀ y ∈ ys, y.length ≤ N) → (ys.map (·.length)).sum ≤ N * ys.length
  | [], _ => Nat.zero_le _
  | y :: r, h => by
    have a := h y (List.mem_cons_self ..)
    have b := sum_bound fun z hz => h z (List.mem_cons_of_mem y hz)
    rw [List.map_cons, List.sum_cons, List.length_cons, Nat.mul_add, Nat.mul_one]
    omega
theorem app_len (x y : Str) : (x ++ y).length = x.length + y.length := by
  rw [len_tl, tl_append, List.length_append, ← len_tl, ← len_tl]
theorem len_lits : ("hall " : Str).length = 5 ∧ ("link " : Str).length = 5 ∧ ("link" : Str).length = 4 ∧ (" " : Str).length = 1 ∧ ("\n" : Str).length = 1 ∧ Str.empty.length = 0 := by decide +kernel
end MyG
namespace MyG
open PySem PySem.Spec PyProof.Rows L2 Evl TL
theorem str_ok {x : Str} (hc : ∀ c ∈ tl x, c < 128) : (PyData.str x).canLay0 = true := by
  simp only [PyData.canLay0]
  unfold PyData.strOk
  rw [Array.all_eq_true_iff_forall_mem]
  intro c h
  exact decide_eq_true (Nat.lt_trans (hc c (Array.mem_toList_iff.mpr h)) (by decide))
theorem small_str {x : Str} {N : Nat} (hl : x.length ≤ N) (hc : ∀ c ∈ tl x, c < 128) : Small (.str x) 0 (10 * N + 2) := by
  refine ⟨rfl, rfl, Nat.le_refl _, ?_, str_ok hc⟩
  have h := PySem.StrLaws.reprText_len x fun c hc' => Nat.lt_trans (hc c hc') (by decide)
  simp only [PyData.shown]
  omega
theorem joinL_small {N : Nat} (hN : 32 < N) : ∀ {ws : List (List Nat)}, (∀ w ∈ ws, ∀ c ∈ w, c < N) → ∀ c ∈ joinL [32] ws, c < N
  | [], _, c, hc => by simp [joinL] at hc
  | [w], h, c, hc => h w (List.mem_singleton.mpr rfl) c hc
  | w :: v :: r, h, c, hc => by
    have hc' : c ∈ w ++ ([32] ++ joinL [32] (v :: r)) := hc
    rcases List.mem_append.mp hc' with k | k
    · exact h w (List.mem_cons_self ..) c k
    · rcases List.mem_append.mp k with k | k
      · rw [List.mem_singleton.mp k]; exact hN
      · exact joinL_small hN (fun z hz => h z (List.mem_cons_of_mem w hz)) c k
theorem rowW_small {ps : List Int} {rs : List (Int × Int × Int)} {ws : List (List Nat)} (h : ws ∈ ps.map hallW ++ rs.map linkW) : ∀ w ∈ ws, ∀ c ∈ w, c < 128 := by
  have num : ∀ n : Nat, ∀ c ∈ numL n, c < 128 := fun n c hc => by
    have := numL_digits n c hc
    omega
  rcases List.mem_append.mp h with h | h
  · obtain ⟨p, _, rfl⟩ := List.mem_map.mp h
    intro w hw
    simp only [hallW, List.mem_cons, List.not_mem_nil, or_false] at hw
    rcases hw with rfl | rfl
    · decide
    · exact num _
  · obtain ⟨r, _, rfl⟩ := List.mem_map.mp h
    intro w hw
    simp only [linkW, List.mem_cons, List.not_mem_nil, or_false] at hw
    rcases hw with rfl | rfl | rfl | rfl
    · decide
    · exact num _
    · exact num _
    · exact num _
theorem written_small {ps : List Int} {rs : List (Int × Int × Int)} : ∀ c ∈ writtenL ps rs, c < 128 := by
  intro c hc
  unfold writtenL at hc
  obtain ⟨l, hl, hc⟩ := List.mem_flatten.mp hc
  obtain ⟨ws, hws, rfl⟩ := List.mem_map.mp hl
  rcases List.mem_append.mp hc with hc | hc
  · exact joinL_small (by decide) (rowW_small hws) c hc
  · rw [List.mem_singleton.mp hc]; decide
/-- a comprehension over a known list that gives each thing as it is -/
theorem el_mapN' {K : PySem.W.Frag} {σ : L2.St} {H : Hp} {te : TE} {a : Addr} {xs : List V} {tl : TE} {j : Nat} {vs : List Nat} (h : Ev tl σ H (.ref a)) (hx : H a = some (.lst xs)) (hz : xs.length ≤ 40000)
    (hw : ∀ x, wipe ((wipe σ vs).set j (some x)) vs = wipe σ vs) (he : ∀ (i : Nat) (x : V) H1, Ex H H1 → xs[i]? = some x → Ev te ((wipe σ vs).set j (some x)) H1 x) : EvL (tLc (iList K tl) (gName j) tYes te vs) σ H xs := by
  have k := el_lcL (K := K) (t := tYes) (te := te) (fun _ => true) (fun i => xs.getD i .non) h (SqL.of hx) hz hw (fun i x H1 e hi => fun H1 _ _ q => q H1 (Ex.refl H1)) (fun i x H1 e hi _ => by
    rw [show xs.getD i .non = x by rw [List.getD_eq_getElem?_getD, hi]; rfl]
    exact he i x H1 e hi)
  rw [given_all'] at k
  exact k
/-- and over a known tuple -/
theorem el_mapTN' {K : PySem.W.Frag} {σ : L2.St} {H : Hp} {te : TE} {a : Addr} {xs : List V} {tl : TE} {j : Nat} {vs : List Nat} (h : Ev tl σ H (.ref a)) (hx : SqT K H a xs) (hz : xs.length ≤ 40000)
    (hw : ∀ x, wipe ((wipe σ vs).set j (some x)) vs = wipe σ vs) (he : ∀ (i : Nat) (x : V) H1, Ex H H1 → xs[i]? = some x → Ev te ((wipe σ vs).set j (some x)) H1 x) : EvL (tLc (iTup K tl) (gName j) tYes te vs) σ H xs := fun H0 e Q q =>
  h H0 e _ fun H1 e1 => ⟨a, rfl, ⟨xs, ex_t (e.trans e1) hx⟩, fun Dl hD => by
    refine lc_tup (xs := xs) (fun i H' => Ex H1 H' ∧ H' Dl = some (.lst (xs.take i))) ⟨Ex.new hD, upd_same⟩ (fun i H' _ p => ex_t ((e.trans e1).trans p.1) hx) (fun i x H' hi p => ⟨hw x, un_yes (iteT ?_)⟩) (fun H' p => q Dl H' (fresh_back e1 hD) (e1.trans p.1) ?_)
    · have h1 := (List.getElem?_eq_some_iff.mp hi).1
      refine he i x H' ((e.trans e1).trans p.1) hi H' (Ex.refl _) _ (fun H2 e2 => ⟨_, e2 _ _ p.2, ?_, (p.1.trans e2).mut hD, ?_⟩)
      · rw [List.length_take]; exact sz_lt (by omega)
      · rw [upd_same, List.take_add_one, hi]; rfl
    · rw [p.2, List.take_length]⟩
end MyG

set_option maxHeartbeats 2000000
/-! Letters: values of one of two classes, t[:0:-1], isinstance with a tuple of kinds. -/
namespace MyG
open PySem PySem.Spec PyProof.Rows L2 Evl HT
/-! ### one of two rules, as the value is -/
def tEi (t1 t2 : TE) : TE := fun σ H Q => t1 σ H Q ∨ t2 σ H Q
theorem pe_either {X : Cx} {e : Expr} {t1 t2 : TE} (h1 : PE X e t1) (h2 : PE X e t2) : PE X e (tEi t1 t2) := ⟨fun pins s σ H Q I h => h.elim (h1.run pins s σ H Q I) (h2.run pins s σ H Q I)⟩
section
variable {t1 t2 : TE} {σ : L2.St} {H : Hp}
theorem ei_l {Q : VK} (h : t1 σ H Q) : tEi t1 t2 σ H Q := .inl h
theorem ei_r {Q : VK} (h : t2 σ H Q) : tEi t1 t2 σ H Q := .inr h
theorem ev_l {v : V} (h : Ev t1 σ H v) : Ev (tEi t1 t2) σ H v := fun H1 e Q q => .inl (h H1 e Q q)
theorem ev_r {v : V} (h : Ev t2 σ H v) : Ev (tEi t1 t2) σ H v := fun H1 e Q q => .inr (h H1 e Q q)
theorem eu_l {xs : List V} (h : EvU t1 σ H xs) : EvU (tEi t1 t2) σ H xs := fun H1 e Q q => .inl (h H1 e Q q)
theorem eu_r {xs : List V} (h : EvU t2 σ H xs) : EvU (tEi t1 t2) σ H xs := fun H1 e Q q => .inr (h H1 e Q q)
end
/-! ### t[:0:-1], t a tuple -/
theorem fm_take {α : Type} (r : List α) : ∀ k, k ≤ r.length → (List.range k).filterMap (fun m => r[m]?) = r.take k
  | 0, _ => by simp
  | k + 1, h => by
    rw [List.range_succ, List.filterMap_append, fm_take r k (by omega), List.take_add_one]
    simp [List.getElem?_eq_getElem (show k < r.length by omega)]
theorem back_ix {α : Type} (l : List α) : ((List.range (l.length - 1)).filterMap fun (m : Nat) => l[(((l.length : Nat) : Int) - 1 + (m : Int) * -1).toNat]?) = (l.drop 1).reverse := by
  have e : (List.range (l.length - 1)).filterMap (fun (m : Nat) => l[(((l.length : Nat) : Int) - 1 + (m : Int) * -1).toNat]?) = (List.range (l.length - 1)).filterMap (fun m => l.reverse[m]?) := by
    have z := congrArg (List.filterMap id) (List.map_congr_left (l := List.range (l.length - 1)) (f := fun (m : Nat) => l[(((l.length : Nat) : Int) - 1 + (m : Int) * -1).toNat]?) (g := fun m => l.reverse[m]?) fun m hm => by
      have := List.mem_range.mp hm
      rw [List.getElem?_reverse (by omega)]
      congr 1
      omega)
    rw [List.filterMap_map, List.filterMap_map] at z
    exact z
  rw [e, fm_take _ _ (by rw [List.length_reverse]; omega), List.take_reverse]
  by_cases h : l.length = 0
  · rw [List.length_eq_zero_iff.mp h]; rfl
  · rw [show l.length - (l.length - 1) = 1 by omega]
section
variable {prog : Program} {w : World} {A : Around} {E : Value → Shared → Prop} {s : Shared}
theorem sliceApplied_back {sl : Addr} {vl vu vs : Value} {n : Nat} {Q : Int × Int × Nat → Shared → Prop} (hs : s.heap.IsSliceOf sl vl vu vs) (pl : IsPart vl none) (pu : IsPart vu (some 0)) (ps : IsPart vs (some (-1)))
    (h : Q (((n : Nat) : Int) - 1, -1, n - 1) s) : wpAny (model prog w) A (Builtin.Slice.sliceApplied (.ref sl) (pure (n : Int))) Q E s := by
  obtain ⟨os, hos, hcs, hds⟩ := id hs
  unfold Builtin.Slice.sliceApplied Builtin.Slice.sliceFields
  refine wpAny_bind (wpAny_bind (wpAny_field hos hds (x := vl) rfl (wpAny_bind (wpAny_field hos hds (x := vu) rfl (wpAny_bind (wpAny_field hos hds (x := vs) rfl (wpAny_pure ?_)))))))
  refine wpAny_bind (slicePart_ ps ?_)
  show wpAny _ _ (if ((-1 : Int) == 0) = true then _ else _) _ _ s
  rw [if_neg (by decide)]
  refine wpAny_bind (slicePart_ pl (wpAny_bind (slicePart_ pu (wpAny_bind (wpAny_pure ?_)))))
  have e : Builtin.Slice.sliceAdjust none (some 0) (-1) (n : Int) = ((n : Int) - 1, (if (0 : Int) ≤ (n : Int) - 1 then 0 else (n : Int) - 1)) := by
    unfold Builtin.Slice.sliceAdjust
    simp only [show ((-1 : Int) < 0) = True by simp, if_true, show ¬ ((0 : Int) < 0) by decide, if_false]
    congr 1
  have e2 : Builtin.Slice.slicePlaces ((n : Int) - 1) (if (0 : Int) ≤ (n : Int) - 1 then 0 else (n : Int) - 1) (-1) = n - 1 := by
    unfold Builtin.Slice.slicePlaces
    have h1 : ¬ ((-1 : Int) > 0) := by omega
    simp only [h1, if_false, show (-(-1) : Int) = 1 by rfl, Int.ediv_one]
    split <;> split <;> omega
  show wpAny _ _ (match Builtin.Slice.sliceAdjust none (some 0) (-1) (n : Int) with | (lo, hi) => pure (lo, (-1 : Int), Builtin.Slice.slicePlaces lo hi (-1))) _ _ s
  rw [e]
  show wpAny _ _ (pure ((n : Int) - 1, (-1 : Int), Builtin.Slice.slicePlaces ((n : Int) - 1) (if (0 : Int) ≤ (n : Int) - 1 then 0 else (n : Int) - 1) (-1))) _ _ s
  rw [e2]
  exact wpAny_pure h
theorem getItem_tuple_back {t sl : Addr} {items : Array Value} {vl vu vs : Value} {Q : Value → Shared → Prop} (ht : IsTup s.heap t items) (hs : s.heap.IsSliceOf sl vl vu vs) (pl : IsPart vl none) (pu : IsPart vu (some 0)) (ps : IsPart vs (some (-1)))
    (h : Q (.ref s.heap.objs.size) { s with heap := s.heap.push { cls := .type "tuple", data := .seq ((items.toList.drop 1).reverse).toArray } })
    (hsz : items.size ≤ sizeLine) : wpAny (model prog w) A (getItem (.ref t) (.ref sl)) Q E s := by
  have htake : sizeOk (.seq ((items.toList.drop 1).reverse).toArray) := by
    show ((items.toList.drop 1).reverse).toArray.size ≤ sizeLine
    rw [List.size_toArray, List.length_reverse, List.length_drop, Array.length_toList]
    omega
  obtain ⟨os, hos, hcs, hds⟩ := id hs
  have hTs : s.TypeIs (.ref sl) "slice" := ⟨os, hos, hcs⟩
  unfold getItem
  try with_reducible refine wpAny_holding ?_
  first | refine wpAny_bind (wpAny_pure ?_) | skip
  refine wpAny_bind (wpAny_sequenceKey ht.typeIs (by decide) ?_)
  refine wpAny_bind (wpAny_callSpecial?_slot (name := Str.ofString "__getitem__") ht.typeIs PyProof.Rows.slot_tuple_getitem
    (wpAny_call_entry PyProof.Rows.slot_tuple_getitem ht.typeIs entry_tuple_getitem ?_ (args_tuple_getitem _ _)))
  show wpAny _ _ (Builtin.Tuple.tupleItemsOf (.ref t) >>= _) _ _ s
  refine wpAny_bind (tupleItemsOf_ ht ?_)
  refine wpAny_bind (wpAny_typeOf hTs ?_)
  rw [if_pos (by decide)]
  refine wpAny_bind (sliceApplied_back hs pl pu ps ?_)
  have hno : ¬ (((((items.size : Nat) : Int) - 1) == 0 && (-1 : Int) == 1 && (items.size - 1) == items.size) = true) := by
    intro q
    rw [Bool.and_eq_true, Bool.and_eq_true] at q
    exact absurd q.1.2 (by decide)
  show wpAny _ _ (if ((((items.size : Nat) : Int) - 1) == 0 && (-1 : Int) == 1 && (items.size - 1) == items.size) = true then _ else _) _ _ s
  have hp : ((List.range (items.size - 1)).filterMap fun (m : Nat) => items[(((items.size : Nat) : Int) - 1 + (m : Int) * -1).toNat]?).toArray = ((items.toList.drop 1).reverse).toArray := by
    rw [← back_ix]
    rw [Array.length_toList]
    simp only [Array.getElem?_toList]
  rw [if_neg hno, hp]
  first
    | exact wpAny_bind (m := Builtin.Tuple.tupleExact _) (wpAny_newObj_type (wpAny_pure ⟨_, rfl, wpAny_pure h⟩) htake)
    | exact wpAny_bind (m := Builtin.Tuple.tupleExact _) (wpAny_newObj_type (wpAny_bind (wpAny_pure (wpAny_pure ⟨_, rfl, wpAny_pure h⟩))) htake)
    | exact wpAny_bind (wpAny_bind (m := Builtin.Tuple.tupleExact _) (wpAny_newObj_type (wpAny_pure (wpAny_pure ⟨_, rfl, wpAny_pure h⟩)) htake))
    | exact wpAny_bind (wpAny_bind (m := Builtin.Tuple.tupleExact _) (wpAny_newObj_type (wpAny_pure ⟨_, rfl, wpAny_pure h⟩) htake))
end
def tBackT (K : PySem.W.Frag) (te : TE) : TE := fun σ H Q => te σ H fun x H1 => ∃ a xs, x = .ref a ∧ SqT K H1 a xs ∧ ∀ p, H1 p = none → Q (.ref p) (upd H1 p (.tup (xs.drop 1).reverse))
theorem vals_back {xs : List V} {us : List Value} (r : Vals xs us) : Vals (xs.drop 1).reverse (us.drop 1).reverse := by
  cases r with
  | nil => exact .nil
  | cons _ r => exact L2.Vals.reverse r
theorem backTK {X : Cx} {K : PySem.W.Frag} {e : Expr} {te : TE} {k k0 : Nat} {p0 p1 p2 p3 pos : Pos} (hK : X.K = K) (he : PE X e te) : PE X (.Subscript e (.Slice none (some (.Constant (.int 0) k0 p0)) (some (.UnaryOp .USub (.Constant (.int 1) k p1) p2)) p3) pos) (tBackT K te) := by
  subst hK
  refine ⟨fun pins s σ H Q I h => ?_⟩
  refine Subscript_ (thn (he.run pins s σ H _ I h) fun v s1 ⟨x, H1, I1, r1, q1⟩ => ?_)
  obtain ⟨a, xs, ex, hx, q⟩ := q1
  subst ex
  cases r1
  have hst : PO X (some (.UnaryOp .USub (.Constant (.int 1) k p1) p2)) (tPart (tUn (rU fun i => .int (-i)) (tC (.int 1)))) := po_some (pe_un un_neg pe_int)
  have hup : PO X (some (.Constant (.int 0) k0 p0)) (tPart (tC (.int 0))) := po_some pe_int
  refine wpAny_Slice (thn (po_none.run pins s1 σ H1 (fun o H2 => o = none ∧ H2 = H1) I1 ⟨rfl, rfl⟩) fun vl s2 ⟨l, H2, I2, pl, el, e2⟩ => ?_)
  subst el e2
  refine thn (hup.run pins s2 σ H2 (fun o H3 => o = some 0 ∧ H3 = H2) I2 ⟨0, rfl, rfl, rfl⟩) fun vu s3 ⟨u, H3, I3, pu, eu, e3⟩ => ?_
  subst eu e3
  refine thn (hst.run pins s3 σ H3 (fun o H4 => o = some (-1) ∧ H4 = H3) I3 ⟨1, rfl, -1, rfl, rfl, rfl⟩) fun vs s4 ⟨o, H4, I4, ps, eo, e4⟩ => ?_
  subst eo e4
  have I5 : Inv X pins σ H4 { s4 with heap := s4.heap.push { cls := .type "slice", data := .fields #[vl, vu, vs] } } := I4.kept (t' := s4.toks) fun b ob q => Heap.get?_push_of_some _ q
  obtain ⟨its, r, ht, hz⟩ := I5.tuple hx
  have hlen := r.length
  show wpAny (model X.prog X.w) X.A (subscriptTail e (.Slice none (some (.Constant (.int 0) k0 p0)) (some (.UnaryOp .USub (.Constant (.int 1) k p1) p2)) p3) (.ref a) (.ref s4.heap.objs.size)) (EP X pins σ Q) X.xe { s4 with heap := s4.heap.push { cls := .type "slice", data := .fields #[vl, vu, vs] } }
  refine tail_any (ops := [.ref a, .ref s4.heap.objs.size]) ht.typeIs (PyProof.Rows.slot_tuple_getitem.lookup) ?_ (by with_unfolding_all rfl)
  refine getItem_tuple_back ht (Heap.IsSliceOf.new _ vl vu vs) pl pu ps ?_ (by rw [List.size_toArray]; omega)
  refine ⟨.ref _, _, I5.laid (t' := s4.toks) (o := .tup (xs.drop 1).reverse) (fun b ob q => Heap.get?_push_of_some _ q) (Nat.le_refl _) ?_, rfl, q _ (I5.hok.fresh (Nat.le_refl _))⟩
  exact ⟨by rw [List.length_reverse, List.length_drop]; omega, _, vals_back r, IsTup.new _ _⟩
/-! ### isinstance with a tuple of kinds -/
theorem isiTK {X : Cx} {K : PySem.W.Frag} (h : X.K = K) : CallR X (.builtin "isinstance") (rIsiT K) := by subst h; exact call_isiT
/-- isinstance(x, (list, tuple)) -/
theorem ev_isiLT {K : PySem.W.Frag} {σ : L2.St} {H : Hp} {te : TE} {x : V} {t : String} (h : Ev te σ H x) (ht : AnyT H x t) : Ev (tCB (rIsiT K) (tCons te (tCons (tTup (tCons (tC (.ty "list")) (tCons (tC (.ty "tuple")) tNil))) tNil))) σ H (.bl (t == "list" || t == "tuple")) := fun H1 e Q q =>
  h H1 e _ fun H2 e2 => ⟨by show 2 ≤ sizeLine; decide, fun p hp => ⟨x, p, [.ty "list", .ty "tuple"], .type t, [.type "list", .type "tuple"], _, rfl, upd_same, .cons (.ty _) (.cons (.ty _) .nil), ((ht.ext (e.trans e2)).ext (Ex.new hp)).ty, by
    have k := kit_all ht.mem
    unfold PySem.W.kitAny
    rw [kit_ty k.2.2.1]
    cases t == "list" with
    | true => rfl
    | false =>
      show PySem.W.kitAny _ _ _ = _
      unfold PySem.W.kitAny
      rw [kit_ty k.2.2.2.1]
      cases t == "tuple" with
      | true => rfl
      | false => rfl, q _ (e2.trans (Ex.new hp))⟩⟩
theorem ev_isiO {K : PySem.W.Frag} {σ : L2.St} {H : Hp} {te : TE} {x : V} {t T : String} {b : Bool} (h : Ev te σ H x) (ht : AnyT H x t) (hb : kitB t T = some b) : Ev (tCB (rIsi K) (tCons te (tCons (tC (.ty T)) tNil))) σ H (.bl b) := fun H1 e Q q =>
  h H1 e _ fun H2 e2 => ⟨x, .ty T, .type t, .type T, b, rfl, .ty _, (ht.ext (e.trans e2)).ty, kit_ty hb, q H2 e2⟩
/-! ### data that are tracked -/
mutual
inductive Dq (H : Hp) : V → PyData → Prop
  | non : Dq H .non .none
  | bl (b : Bool) : Dq H (.bl b) (.bool b)
  | int (i : Int) : Dq H (.int i) (.int i)
  | str (x : Str) : Dq H (.str x) (.str x)
  | lst {a : Addr} {xs : List V} {ds : List PyData} : H a = some (.lst xs) → DqAll H xs ds → Dq H (.ref a) (.list ds)
  | tup {a : Addr} {xs : List V} {ds : List PyData} : H a = some (.tup xs) → DqAll H xs ds → Dq H (.ref a) (.tuple ds)
inductive DqAll (H : Hp) : List V → List PyData → Prop
  | nil : DqAll H [] []
  | cons {v : V} {vs : List V} {d : PyData} {ds : List PyData} : Dq H v d → DqAll H vs ds → DqAll H (v :: vs) (d :: ds)
end
mutual
theorem Dq.ext {H H' : Hp} (e : Ex H H') : ∀ {v : V} {d : PyData}, Dq H v d → Dq H' v d
  | _, _, .non => .non
  | _, _, .bl b => .bl b
  | _, _, .int i => .int i
  | _, _, .str x => .str x
  | _, _, .lst h a => .lst (e _ _ h) (DqAll.ext e a)
  | _, _, .tup h a => .tup (e _ _ h) (DqAll.ext e a)
theorem DqAll.ext {H H' : Hp} (e : Ex H H') : ∀ {vs : List V} {ds : List PyData}, DqAll H vs ds → DqAll H' vs ds
  | _, _, .nil => .nil
  | _, _, .cons h a => .cons (Dq.ext e h) (DqAll.ext e a)
end
mutual
theorem Dq.dp {K : PySem.W.Frag} {H : Hp} : ∀ {v : V} {d : PyData}, Dq H v d → Dp K H v d
  | _, _, .non => .non
  | _, _, .bl b => .bl b
  | _, _, .int i => .int i
  | _, _, .str x => .str x
  | _, _, .lst h a => .lst (SqL.of h) (DqAll.dp a)
  | _, _, .tup h a => .tup (SqT.of h) (DqAll.dp a)
theorem DqAll.dp {K : PySem.W.Frag} {H : Hp} : ∀ {vs : List V} {ds : List PyData}, DqAll H vs ds → DpAll K H vs ds
  | _, _, .nil => .nil
  | _, _, .cons h a => .cons (Dq.dp h) (DqAll.dp a)
end
def kindD : PyData → String
  | .none => "NoneType"
  | .bool _ => "bool"
  | .int _ => "int"
  | .str _ => "str"
  | .list _ => "list"
  | .tuple _ => "tuple"
  | _ => "dict"
theorem Dq.any {H : Hp} {v : V} {d : PyData} (h : Dq H v d) : AnyT H v (kindD d) := by
  cases h with
  | non => exact .non
  | bl b => exact .bl b
  | int i => exact .int i
  | str x => exact .str x
  | lst h _ => exact .lst h
  | tup h _ => exact .tup h
theorem DqAll.len {H : Hp} : ∀ {vs : List V} {ds : List PyData}, DqAll H vs ds → vs.length = ds.length
  | _, _, .nil => rfl
  | _, _, .cons _ a => by rw [List.length_cons, List.length_cons, DqAll.len a]
theorem DqAll.at {H : Hp} : ∀ {vs : List V} {ds : List PyData} {i : Nat} {v : V}, DqAll H vs ds → vs[i]? = some v → ∃ d, ds[i]? = some d ∧ Dq H v d
  | _, _, 0, _, .cons h _, e => by
    rw [List.getElem?_cons_zero] at e
    obtain rfl := Option.some.inj e
    exact ⟨_, rfl, h⟩
  | _, _, i + 1, _, .cons _ a, e => by
    rw [List.getElem?_cons_succ] at e
    obtain ⟨d, h1, h2⟩ := DqAll.at a e
    exact ⟨d, h1, h2⟩
/-- what an own walk of at most k layers can look through -/
def alk : Nat → PyData → Bool
  | 0, _ => false
  | k + 1, .list ds => decide (ds.length ≤ 1000) && ds.all (alk k)
  | k + 1, .tuple ds => decide (ds.length ≤ 1000) && ds.all (alk k)
  | _ + 1, .none => true
  | _ + 1, .bool _ => true
  | _ + 1, .int _ => true
  | _ + 1, .str _ => true
  | _, _ => false
/-- data alike -/
def sp_alike (k : Nat) : Sp := fun vs H Q _ => ∃ x y d, vs = [x, y] ∧ Dq H x d ∧ Dq H y d ∧ alk k d = true ∧ ∀ H', Ex H H' → Q (.bl true) H'
/-! ### own ==, the other thing of any class -/
def AnyJ (K : PySem.W.Frag) (C : Addr) (H : Hp) (y : V) : Prop := (∃ t, AnyT H y t) ∨ ∃ b D dy gs, y = .ref b ∧ H b = some (.ins D dy gs) ∧ PySem.W.notFirst K C (.ref D) = true
theorem notFirst_self {K : PySem.W.Frag} {C : Addr} : PySem.W.notFirst K C (.ref C) = true := by simp [PySem.W.notFirst]
theorem notFirst_other {K : PySem.W.Frag} {C D : Addr} (h : PySem.W.subIn K (.ref D) (.ref C) = some false) : PySem.W.notFirst K C (.ref D) = true := by simp [PySem.W.notFirst, h]
def rEqJ (K : PySem.W.Frag) (C : Addr) (sp : Sp) (E : XK) : R2 := fun x y H Q => ∃ a dx fs, x = .ref a ∧ H a = some (.ins C dx fs) ∧ AnyJ K C H y ∧ sp [.ref a, y] H (fun v H' => ∃ k, v = .bl k ∧ Q (.bl k) H') E
def rNeJ (K : PySem.W.Frag) (C : Addr) (sp : Sp) (E : XK) : R2 := fun x y H Q => ∃ a dx fs, x = .ref a ∧ H a = some (.ins C dx fs) ∧ AnyJ K C H y ∧ sp [.ref a, y] H (fun v H' => ∃ k, v = .bl k ∧ Q (.bl (!k)) H') E
section
variable {X : Cx} {K : PySem.W.Frag} {pins : List (Addr × Obj)} {σ : L2.St} {H : Hp} {s : Shared} {C f : Addr} {fd : FuncData} {ps : List Str} {n : Nat} {sp : Sp} {CX : CXT} {E : XK}
theorem op_eqJ (hK : X.K = K) (c : EqC K C f) (F : FnOk X.prog X.w X.K X.mg X.base CX n f fd ps sp) (room : Room n X.A) (hb : Binds X.K fd ps []) (hx : Passes CX X E) : OpR X (compareOp .Eq) (rEqJ K C sp E) := by
  subst hK
  intro pins s σ H x y v u Q I rx ry h
  obtain ⟨a, dx, fs, rfl, ha, hy, hs⟩ := h
  cases rx
  obtain ⟨mA, J, _⟩ := ins_get I.hok ha
  obtain ⟨od, J, _⟩ := J.look
  obtain ⟨m, hF⟩ := I.fr
  show wpAny (model X.prog X.w) X.A (richCompare .Eq (.ref a) u) (EP X pins σ Q) X.xe s
  have go : wpAny (model X.prog X.w) X.A (call (.ref f) [.ref a, u]) (PySem.W.CmpBack (EP X pins σ Q)) X.xe s := by
    refine wpAny_mono (run_eq F room rfl hb hx I ry hs) (fun w s' hw => ?_) fun _ _ e => e
    obtain ⟨z, H', I', rz, k, rfl, hq⟩ := hw
    cases rz
    exact ⟨.bl k, H', I', rfl, hq⟩
  rcases hy with ⟨t, ht⟩ | ⟨b, D, dy, gs, rfl, hb', hn⟩
  · exact PySem.W.cmp_K (op := .Eq) (tb := .type t) room.units0 hF I.ok.mod.kin J (any_looks I ry ht) (first7 ht.mem) c.he c.hf go
  · cases ry
    obtain ⟨mB, J', _⟩ := ins_get I.hok hb'
    obtain ⟨od', J', _⟩ := J'.look
    exact PySem.W.cmp_K (op := .Eq) (tb := .ref D) room.units0 hF I.ok.mod.kin J J'.type hn c.he c.hf go
theorem op_neJ (hK : X.K = K) (c : EqC K C f) (F : FnOk X.prog X.w X.K X.mg X.base CX n f fd ps sp) (room : Room (n + 1) X.A) (hb : Binds X.K fd ps []) (hx : Passes CX X E) : OpR X (compareOp .NotEq) (rNeJ K C sp E) := by
  subst hK
  intro pins s σ H x y v u Q I rx ry h
  obtain ⟨a, dx, fs, rfl, ha, hy, hs⟩ := h
  cases rx
  obtain ⟨mA, J, _⟩ := ins_get I.hok ha
  obtain ⟨od, J, _⟩ := J.look
  show wpAny (model X.prog X.w) X.A (richCompare .NotEq (.ref a) u) (EP X pins σ Q) X.xe s
  have un := room.units
  obtain ⟨hp, g, d, tk, os⟩ := s
  have go : ∀ tk', wpAny (model X.prog X.w) X.A.in1 (call (.ref f) [.ref a, u]) (fun v s' => ∃ k, v = .bool k ∧ EP X pins σ Q (.bool (!k)) s') X.xe ⟨hp, g, d, tk', os⟩ := by
    intro tk'
    refine wpAny_mono (run_eq F room.in1 rfl hb hx (I.tok tk') ry hs) (fun w s' hw => ?_) fun _ _ e => e
    obtain ⟨z, H', I', rz, k, rfl, hq⟩ := hw
    cases rz
    exact ⟨k, rfl, .bl (!k), H', I', rfl, hq⟩
  rcases hy with ⟨t, ht⟩ | ⟨b, D, dy, gs, rfl, hb', hn⟩
  · exact ne_own (tb := .type t) I.kIn J (any_looks I ry ht) (first7 ht.mem) c.he c.hf c.ne c.ob (by omega) go
  · cases ry
    obtain ⟨mB, J', _⟩ := ins_get I.hok hb'
    obtain ⟨od', J', _⟩ := J'.look
    exact ne_own (tb := .ref D) I.kIn J J'.type hn c.he c.hf c.ne c.ob (by omega) go
end
/-- isinstance of an instance of the class at D with the class at C -/
theorem isi_insD {K : PySem.W.Frag} {H : Hp} {C D a dx : Addr} {fs : List (Str × V)} {b : Bool} {Q : VK} (q : IsiC K D) (cl : Cls K D) (kb : PySem.W.kitOne K (.ref D) (.ref C) = some b) (h : H a = some (.ins D dx fs)) (k : Q (.bl b) H) : rIsi K [.ref a, .ref C] H Q :=
  ⟨.ref a, .ref C, .ref D, .ref C, b, rfl, .own C, .base (.ins h cl q.ca q.cn q.ct q.cm), kb, k⟩
/-! ### x or y, by truth -/
theorem orTK {X : Cx} {K : PySem.W.Frag} {a b : Expr} {ta tb : TE} {rest : List Expr} {pos : Pos} (h : X.K = K) (ha : PE X a ta) (hb : PE X (.BoolOp .Or (b :: rest) pos) tb) : PE X (.BoolOp .Or (a :: b :: rest) pos) (tOrT K ta tb) := by subst h; exact pe_orT ha hb
section
variable {K : PySem.W.Frag} {σ : L2.St} {H : Hp} {ta tb te : TE}
theorem el_or1 {xs : List V} (h : EvL ta σ H xs) (hne : xs ≠ []) : EvL (tOrT K ta tb) σ H xs := fun H1 e Q q =>
  h H1 e _ fun p H2 hp e2 h2 => ⟨true, .inl ⟨xs, SqL.of h2, by cases xs with | nil => exact absurd rfl hne | cons _ _ => rfl⟩, iteT (q p H2 hp e2 h2)⟩
theorem el_or2 {ys : List V} (h : EvL ta σ H []) (h2 : EvL tb σ H ys) : EvL (tOrT K ta tb) σ H ys := fun H1 e Q q =>
  h H1 e _ fun p H2 hp e2 hx => ⟨false, .inl ⟨[], SqL.of hx, rfl⟩, iteF (h2 H2 (e.trans e2) Q fun p' H3 hp' e3 h3 => q p' H3 (fresh_back e2 hp') (e2.trans e3) h3)⟩
theorem el_or {xs ys : List V} (h : EvL ta σ H xs) (h2 : xs = [] → EvL tb σ H ys) : EvL (tOrT K ta tb) σ H (if xs.isEmpty then ys else xs) := by
  cases xs with
  | nil => exact el_or2 h (h2 rfl)
  | cons x r => exact el_or1 h (by simp)
theorem given_allF (ys : List V) : given ys.length (fun _ => true) (fun i => ys.getD i .non) = ys := by
  unfold given
  rw [List.filter_eq_self.mpr (fun _ _ => rfl)]
  refine List.ext_getElem (by simp) (fun i h1 h2 => ?_)
  rw [List.getElem_map, List.getElem_range, List.getD_eq_getElem?_getD, List.getElem?_eq_getElem h2]
  rfl
/-- [e for x in a new list], each thing as it is -/
theorem el_mapF {xs ys : List V} {tl : TE} {j : Nat} {vs : List Nat} (h : EvL tl σ H xs) (hz : xs.length ≤ 40000) (hl : ys.length = xs.length)
    (hw : ∀ x, wipe ((wipe σ vs).set j (some x)) vs = wipe σ vs) (he : ∀ (i : Nat) (x y : V) H1, Ex H H1 → xs[i]? = some x → ys[i]? = some y → Ev te ((wipe σ vs).set j (some x)) H1 y) : EvL (tLc (iList K tl) (gName j) tYes te vs) σ H ys := by
  have k := el_lcNL (K := K) (t := tYes) (te := te) (fun _ => true) (fun i => ys.getD i .non) h hz hw (fun i x H1 e hi => fun H1 _ _ q => q H1 (Ex.refl H1)) (fun i x H1 e hi _ => by
    have h1 := (List.getElem?_eq_some_iff.mp hi).1
    have h2 : i < ys.length := by omega
    rw [show ys.getD i .non = ys[i] by rw [List.getD_eq_getElem?_getD, List.getElem?_eq_getElem h2]; rfl]
    exact he i x _ H1 e hi (List.getElem?_eq_getElem h2))
  rw [← hl, given_allF] at k
  exact k
theorem cut_all (xs : List V) {k : Nat} (h : xs.length ≤ k) : cutV xs none (some (k : Int)) = xs := by
  unfold cutV
  rw [sIx_none, sIx_nat, List.drop_zero, Nat.min_eq_right h, Nat.sub_zero, List.take_length]
end
section
variable {K : PySem.W.Frag} {σ : L2.St} {H : Hp} {ta tb te : TE} {x : V} {t : String}
theorem ev_isi_int (h : Ev te σ H x) (ht : AnyT H x t) : Ev (tCB (rIsi K) (tCons te (tCons (tC (.ty "int")) tNil))) σ H (.bl (t == "int" || t == "bool")) := ev_isiO h ht (kit_all ht.mem).1
theorem ev_isi_bool (h : Ev te σ H x) (ht : AnyT H x t) : Ev (tCB (rIsi K) (tCons te (tCons (tC (.ty "bool")) tNil))) σ H (.bl (t == "bool")) := ev_isiO h ht (kit_all ht.mem).2.1
theorem ev_isi_list (h : Ev te σ H x) (ht : AnyT H x t) : Ev (tCB (rIsi K) (tCons te (tCons (tC (.ty "list")) tNil))) σ H (.bl (t == "list")) := ev_isiO h ht (kit_all ht.mem).2.2.1
theorem ev_isi_tuple (h : Ev te σ H x) (ht : AnyT H x t) : Ev (tCB (rIsi K) (tCons te (tCons (tC (.ty "tuple")) tNil))) σ H (.bl (t == "tuple")) := ev_isiO h ht (kit_all ht.mem).2.2.2.1
theorem ev_isi_str (h : Ev te σ H x) (ht : AnyT H x t) : Ev (tCB (rIsi K) (tCons te (tCons (tC (.ty "str")) tNil))) σ H (.bl (t == "str")) := ev_isiO h ht (kit_all ht.mem).2.2.2.2.1
theorem ev_isi_dict (h : Ev te σ H x) (ht : AnyT H x t) : Ev (tCB (rIsi K) (tCons te (tCons (tC (.ty "dict")) tNil))) σ H (.bl (t == "dict")) := ev_isiO h ht (kit_all ht.mem).2.2.2.2.2
theorem ev_isN (h : Ev te σ H x) : Ev (tOp (fun x y H Q => y = V.non ∧ Q (V.bl (decide (x = V.non))) H) te (tC V.non)) σ H (.bl (decide (x = .non))) := ev_op h ev_c fun H1 e Q q => ⟨rfl, q H1 (Ex.refl H1)⟩
theorem ev_allN {bs : List Bool} (h : EvL te σ H (bs.map V.bl)) : Ev (tCB (rAll K) (tCons te tNil)) σ H (.bl (bs.all id)) := fun H1 e Q q => h H1 e _ fun p H2 hp e2 h2 => ⟨p, bs, rfl, SqL.of h2, q H2 e2⟩
theorem ev_lenT {p : Addr} {xs : List V} (ha : Ev te σ H (.ref p)) (h : H p = some (.tup xs)) : Ev (tCB (rLenQ K) (tCons te tNil)) σ H (.int (xs.length : Int)) := fun H1 e Q q =>
  ha H1 e _ fun H2 e2 => ⟨p, xs, rfl, .inr (SqT.of ((e.trans e2) _ _ h)), q H2 e2⟩
/-- [e for k in range(n)], known for each k -/
theorem el_mapR {ta : TA} {j : Nat} {vs : List Nat} {ys : List V} (h : EvA ta σ H [.int (ys.length : Int)]) (hn : ys.length ≤ 40000) (hw : ∀ x, wipe ((wipe σ vs).set j (some x)) vs = wipe σ vs)
    (he : ∀ (i : Nat) (y : V) H1, Ex H H1 → ys[i]? = some y → Ev te ((wipe σ vs).set j (some (.int (i : Int)))) H1 y) : EvL (tLc (iRng1 ta) (gName j) tYes te vs) σ H ys := by
  have k := el_lcR1 (t := tYes) (te := te) (fun _ => true) (fun i => ys.getD i .non) h (by omega) hw (fun i H1 e hi => fun H1 _ _ q => q H1 (Ex.refl H1)) (fun i H1 e hi _ => by
    have h2 : i < ys.length := by omega
    rw [show ys.getD i .non = ys[i] by rw [List.getD_eq_getElem?_getD, List.getElem?_eq_getElem h2]; rfl]
    exact he i _ H1 e (List.getElem?_eq_getElem h2))
  rw [Int.toNat_natCast, given_allF] at k
  exact k
/-- xs[i], xs a list or a tuple -/
theorem ev_ixq {tk : TE} {p : Addr} {xs : List V} {i : Nat} {v : V} (h : H p = some (.lst xs) ∨ H p = some (.tup xs)) (ha : Ev te σ H (.ref p)) (hk : Ev tk σ H (.int (i : Int))) (hi : xs[i]? = some v) : Ev (tEi (tOp (rIxL K) te tk) (tOp (rIxT K) te tk)) σ H v := by
  rcases h with h | h
  · exact ev_l (ev_op ha hk (rv_ixL (SqL.of h) (atI_nat hi)))
  · exact ev_r (ev_op ha hk (rv_ixT (SqT.of h) (atI_nat hi)))
theorem ev_lenA {p : Addr} {xs : List V} (ha : Ev te σ H (.ref p)) (h : H p = some (.lst xs) ∨ H p = some (.tup xs)) : Ev (tCB (rLenQ K) (tCons te tNil)) σ H (.int (xs.length : Int)) := h.elim (ev_lenQ ha) (ev_lenT ha)
end
section
variable {K : PySem.W.Frag} {σ : L2.St} {H : Hp} {ta tb te : TE}
theorem ev_fld {f : Str} {p C dx : Addr} {fs : List (Str × V)} {v : V} (ha : Ev te σ H (.ref p)) (h : H p = some (.ins C dx fs)) (cl : Cls K C) (nf : PySem.W.findIn K (.ref C) f = some none) (lk : fs.lookup f = some v) : Ev (tFld K te f) σ H v := fun H1 e Q q =>
  ha H1 e _ fun H2 e2 => ⟨p, C, dx, fs, v, rfl, (e.trans e2) _ _ h, cl, nf, lk, q H2 e2⟩
theorem EvU.mono {H' : Hp} {xs : List V} (e : Ex H H') (h : EvU te σ H xs) : EvU te σ H' xs := fun H1 a Q q => h H1 (e.trans a) Q q
theorem eu_sl {tl th : TO} {a : Addr} {xs : List V} {lo hi : Option Int} (h : Ev te σ H (.ref a)) (h1 : EvO tl σ H lo) (h2 : EvO th σ H hi) (hs : H a = some (.tup xs)) (hw : ¬ (HT.sIx xs.length 0 lo = 0 ∧ HT.sIx xs.length xs.length hi = xs.length)) : EvU (tSl (rSlT K) te tl th) σ H (cutV xs lo hi) := fun H1 e Q q =>
  h H1 e _ fun H2 e2 => h1 H2 (e.trans e2) _ fun H3 e3 => h2 H3 ((e.trans e2).trans e3) _ fun H4 e4 => ⟨a, xs, rfl, SqT.of ((((e.trans e2).trans e3).trans e4) _ _ hs), hw, fun p hp => q p _ (fresh_back ((e2.trans e3).trans e4) hp) (((e2.trans e3).trans e4).trans (Ex.new hp)) upd_same⟩
theorem eu_back {a : Addr} {xs : List V} (h : Ev te σ H (.ref a)) (hs : H a = some (.tup xs)) : EvU (tBackT K te) σ H (xs.drop 1).reverse := fun H1 e Q q =>
  h H1 e _ fun H2 e2 => ⟨a, xs, rfl, SqT.of ((e.trans e2) _ _ hs), fun p hp => q p _ (fresh_back e2 hp) (e2.trans (Ex.new hp)) upd_same⟩
theorem eu_cat {xs ys : List V} (h1 : EvU ta σ H xs) (h2 : EvU tb σ H ys) (hx : xs ≠ []) (hl : xs.length + ys.length ≤ 1000) : EvU (tOp (rCatT K) ta tb) σ H (xs ++ ys) := fun H1 e Q q =>
  h1 H1 e _ fun p H2 hp e2 hxs => h2 H2 (e.trans e2) _ fun r H3 hr e3 hys => ⟨p, r, xs, ys, rfl, rfl, SqT.of (e3 _ _ hxs), SqT.of hys, hx, Nat.le_trans hl (by decide), (fun z => by
    subst z
    rw [List.append_nil] at q
    exact q p H3 hp (e2.trans e3) (e3 _ _ hxs)), fun _ t ht => q t _ (fresh_back (e2.trans e3) ht) ((e2.trans e3).trans (Ex.new ht)) upd_same⟩
theorem eu_if {t : TT} {b : Bool} {xs : List V} (h : EvT t σ H b) (h1 : b = true → EvU ta σ H xs) (h2 : b = false → EvU tb σ H xs) : EvU (tIf t ta tb) σ H xs := fun H1 e Q q => h H1 e _ fun H2 e2 => by
  cases b with
  | true => exact iteT (h1 rfl H2 (e.trans e2) Q fun p H3 hp e3 hx => q p H3 (fresh_back e2 hp) (e2.trans e3) hx)
  | false => exact iteF (h2 rfl H2 (e.trans e2) Q fun p H3 hp e3 hx => q p H3 (fresh_back e2 hp) (e2.trans e3) hx)
theorem eu_is {xs ys : List V} (h : EvU te σ H xs) (e : xs = ys) : EvU te σ H ys := by rw [← e]; exact h
end
/-! ### a value that is such data -/
def EvQ (te : TE) (σ : L2.St) (H : Hp) (d : PyData) : Prop := ∀ H1, Ex H H1 → ∀ Q : VK, (∀ v H2, Ex H1 H2 → Dq H2 v d → Q v H2) → te σ H1 Q
def EvQA (ta : TA) (σ : L2.St) (H : Hp) (ds : List PyData) : Prop := ∀ H1, Ex H H1 → ∀ Q : List V → Hp → Prop, (∀ vs H2, Ex H1 H2 → DqAll H2 vs ds → Q vs H2) → ta σ H1 Q
section
variable {K : PySem.W.Frag} {σ : L2.St} {H : Hp} {ta tb te : TE} {d : PyData}
theorem ed_ev {v : V} (h : Ev te σ H v) (hd : Dq H v d) : EvQ te σ H d := fun H1 e Q q => h H1 e Q fun H2 e2 => q v H2 e2 (hd.ext (e.trans e2))
theorem ed_tup {xs : List V} {ds : List PyData} (h : EvU te σ H xs) (hd : DqAll H xs ds) : EvQ te σ H (.tuple ds) := fun H1 e Q q => h H1 e Q fun p H2 hp e2 h2 => q _ H2 e2 (.tup h2 (hd.ext (e.trans e2)))
theorem ed_list {xs : List V} {ds : List PyData} (h : EvL te σ H xs) (hd : DqAll H xs ds) : EvQ te σ H (.list ds) := fun H1 e Q q => h H1 e Q fun p H2 hp e2 h2 => q _ H2 e2 (.lst h2 (hd.ext (e.trans e2)))
theorem EvQ.mono {H' : Hp} (e : Ex H H') (h : EvQ te σ H d) : EvQ te σ H' d := fun H1 a Q q => h H1 (e.trans a) Q q
theorem eda_nil : EvQA tNil σ H [] := fun H1 _ _ q => q _ H1 (Ex.refl H1) .nil
theorem eda_cons {tr : TA} {ds : List PyData} (h : EvQ te σ H d) (hr : EvQA tr σ H ds) : EvQA (tCons te tr) σ H (d :: ds) := fun H1 e Q q =>
  h H1 e _ fun v H2 e2 hv => hr H2 (e.trans e2) _ fun vs H3 e3 hs => q _ H3 (e2.trans e3) (.cons (hv.ext e3) hs)
theorem ed_lst {tr : TA} {ds : List PyData} (h : EvQA tr σ H ds) (hl : ds.length ≤ 1000) : EvQ (tLst tr) σ H (.list ds) := fun H1 e Q q =>
  h H1 e _ fun vs H2 e2 hs => ⟨by rw [hs.len]; exact Nat.le_trans hl (by decide), fun p hp => q _ _ (e2.trans (Ex.new hp)) (.lst upd_same (hs.ext (Ex.new hp)))⟩
theorem ed_tp {tr : TA} {ds : List PyData} (h : EvQA tr σ H ds) (hl : ds.length ≤ 1000) : EvQ (tTup tr) σ H (.tuple ds) := fun H1 e Q q =>
  h H1 e _ fun vs H2 e2 hs => ⟨by rw [hs.len]; exact Nat.le_trans hl (by decide), fun p hp => q _ _ (e2.trans (Ex.new hp)) (.tup upd_same (hs.ext (Ex.new hp)))⟩
theorem ed_is {d' : PyData} (h : EvQ te σ H d) (e : d = d') : EvQ te σ H d' := by rw [← e]; exact h
/-- [x] * k, x a truth -/
theorem ed_repB {b : Bool} {k : Nat} (h : Ev te σ H (.bl b)) (hk : k ≤ 1000) : EvQ (tOp rRep (tLst (tCons te tNil)) (tC (.int (k : Int)))) σ H (.list (List.replicate k (.bool b))) := fun H1 e Q q =>
  h H1 e _ fun H2 e2 => ⟨by show 1 ≤ sizeLine; decide, fun p hp => ⟨p, k, [.bl b], rfl, rfl, upd_same, by omega, by omega, by
    rw [Int.toNat_natCast]
    show 1 * k ≤ sizeLine
    exact Nat.le_trans (by omega : 1 * k ≤ 1000) (by decide), fun r hr => by
    rw [Int.toNat_natCast]
    refine q _ _ ((e2.trans (Ex.new hp)).trans (Ex.new hr)) (.lst upd_same ?_)
    induction k with
    | zero => exact .nil
    | succ n ih => 
      have z : ∀ m, DqAll (upd (upd H2 p (.lst [.bl b])) r (.lst (List.replicate (n + 1) [V.bl b]).flatten)) (List.replicate m [V.bl b]).flatten (List.replicate m (.bool b)) := by
        intro m
        induction m with
        | zero => exact .nil
        | succ m ih => exact .cons (.bl b) ih
      exact z (n + 1)⟩⟩
theorem ev_alike {k : Nat} (ha : EvQ ta σ H d) (hb : EvQ tb σ H d) (hk : alk k d = true) : Ev (tCall (sp_alike k) [] E0 (tCons ta (tCons tb tNil))) σ H (.bl true) := fun H1 e Q q =>
  ha H1 e _ fun v H2 e2 hv => hb H2 (e.trans e2) _ fun u H3 e3 hu => ⟨v, u, d, rfl, hv.ext e3, hu, hk, fun H4 e4 => q H4 ((e2.trans e3).trans e4)⟩
end
end MyG

set_option maxHeartbeats 2000000
/-! An exception that is kept in a name behind its try: what stands at its address, isinstance of it, its fields, the try that keeps it. -/
namespace MyG
open PySem PySem.Spec PyProof.Rows L2 Evl
/-- an exception at a, of the class cls, its own dict at d -/
def XO (a : Addr) (cls : Value) (d : Option Addr) : HO := .ext fun h => ∃ (o : Obj) (fv : Array Value), h.get? a = some o ∧ Zc cls d o ∧ o.data = .fields fv
section
variable {P : Program} {w : World} {H : Hp} {h : Heap} {a : Addr} {o : Obj} {fv : Array Value} {cls : Value} {d : Option Addr}
theorem xo_ok (e : h.get? a = some o) (z : Zc cls d o) (hd : o.data = .fields fv) : ObjOk P w H h a (XO a cls d) :=
  ⟨⟨o, fv, e, z, hd⟩, ⟨o, e⟩, fun h1 h2 ⟨o1, f1, e1, z1, d1⟩ k => ⟨o1, f1, k _ e1, z1, d1⟩⟩
theorem xo_at (x : ObjOk P w H h a (XO a cls d)) : ∃ (o : Obj) (fv : Array Value), h.get? a = some o ∧ Zc cls d o ∧ o.data = .fields fv := x.1
end
section
variable {X : Cx} {pins : List (Addr × Obj)} {σ : L2.St} {H : Hp} {s : Shared} {a : Addr} {o : Obj} {fv : Array Value} {cls : Value} {d : Option Addr}
/-- an object of the heap, not tracked so far, is tracked as a kept exception -/
theorem tell_exc (I : Inv X pins σ H s) (e : s.heap.get? a = some o) (z : Zc cls d o) (hd : o.data = .fields fv) (na : H a = none) (nL : a ≠ X.env.locals) (np : ∀ p ∈ X.pn ++ pins, p.1 ≠ a) (n0 : ∀ ob, X.s_0.heap.get? a = some ob → a ∈ X.ex) :
    Inv X pins σ (upd H a (XO a cls d)) s := by
  have other : ∀ {b : Addr} {u : HO}, H b = some u → upd H a (XO a cls d) b = some u := fun {b u} hb => by rw [upd_ne (ne_of_none hb na)]; exact hb
  refine { ok := I.ok, os := I.os, bare := I.bare, loc := I.loc, cell := I.cell, len := I.len, base := ?_, free := ?_, freeC := ?_, pin := ?_, hok := ?_ }
  · refine { keep := I.base.keep, slot := I.base.slot, there := I.base.there, free := fun b ob hb hn hx => ?_, tups := fun b xs hb => other (I.base.tups b xs hb), frzs := fun b ob u hb => other (I.base.frzs b ob u hb), tbls := fun b ps hb => ?_ }
    · have hne : b ≠ a := fun q => by
        subst q
        exact hx (n0 ob hb)
      rw [upd_ne hne]
      exact I.base.free b ob hb hn hx
    · obtain ⟨more, hm⟩ := I.base.tbls b ps hb
      exact ⟨more, other hm⟩
  · rw [upd_ne nL.symm]
    exact I.free
  · intro x c hc
    have hne : c ≠ a := fun q => by
      subst q
      obtain ⟨v, hv⟩ := I.cell x c hc
      obtain ⟨oc, h1, h2⟩ : ∃ oc, s.heap.get? c = some oc ∧ oc.data = .cell v := by
        first
          | exact ⟨_, hv, rfl⟩
          | exact hv
          | (obtain ⟨oc, k1, k2⟩ := hv; exact ⟨oc, k1, k2.2⟩)
          | (obtain ⟨oc, k1, k2⟩ := hv; exact ⟨oc, k1, k2⟩)
      rw [e] at h1
      cases h1
      rw [hd] at h2
      cases h2
    rw [upd_ne hne]
    exact I.freeC x c hc
  · intro p hp
    obtain ⟨h1, h2, h3⟩ := I.pin p hp
    exact ⟨h1, by rw [upd_ne (np p hp)]; exact h2, h3⟩
  · intro b u hb
    by_cases q : b = a
    · subst q
      rw [upd_same] at hb
      cases hb
      exact xo_ok e z hd
    · rw [upd_ne q] at hb
      exact (I.hok b u hb).stay (fun _ _ _ k => k) (fun _ k => other k) (fun _ _ k => other k)
/-- the kept exception's object, its dict with it -/
theorem xo_inst {C dd : Addr} {fs : List (Str × V)} (I : Inv X pins σ H s) (ha : H a = some (XO a (.ref C) d)) (hd : d = none ∨ (d = some dd ∧ H dd = some (.xd fs))) :
    ∃ (o : Obj) (od : Option Obj), PySem.W.InstAt s.heap a o C od := by
  obtain ⟨o, fv, e, z, k⟩ := xo_at (I.hok a _ ha)
  rcases hd with rfl | ⟨rfl, hdd⟩
  · refine ⟨o, none, ?_⟩
    obtain ⟨oc, od, oda, osl⟩ := o
    obtain ⟨z1, z2⟩ := z
    dsimp only at z1 z2 k
    subst z1 z2 k
    exact ⟨e, rfl, rfl, trivial⟩
  · obtain ⟨mA, hns, _⟩ := (show ObjOk X.prog X.w H s.heap dd (.xd fs) from I.hok dd _ hdd)
    obtain ⟨od, ho, _⟩ := lookIn_ns hns
    exact ⟨o, some od, e, z.1, by unfold PySem.W.notCls; rw [k] <;> rfl, by rw [z.2]; exact ho⟩
end
end MyG
namespace MyG
open PySem PySem.Spec PyProof.Rows L2 Evl
section
variable {X : Cx} {K : PySem.W.Frag}
/-- what stands in the abstract heap of a kept exception -/
def ExcAt (H : Hp) (a C : Addr) (d : Option Addr) : Prop := H a = some (XO a (.ref C) d) ∧ (d = none ∨ ∃ dd fs, d = some dd ∧ H dd = some (.xd fs))
theorem ExcAt.ext {H H' : Hp} {a C : Addr} {d : Option Addr} (e : Ex H H') (h : ExcAt H a C d) : ExcAt H' a C d :=
  ⟨e _ _ h.1, h.2.imp id fun ⟨dd, fs, h1, h2⟩ => ⟨dd, fs, h1, e _ _ h2⟩⟩
theorem cls_some {C : Addr} (h : PySem.W.hasDictIn K C = true) : (PySem.W.clsIn K C).isSome = true := by
  unfold PySem.W.hasDictIn at h
  cases q : PySem.W.clsIn K C with
  | none =>
    rw [q] at h
    cases h
  | some _ => rfl
/-- isinstance(e, c), e kept -/
def rIsX (K : PySem.W.Frag) : List V → Hp → VK → Prop := fun xs H Q => ∃ (a C : Addr) (d : Option Addr) (c : V) (cv : Value) (b : Bool), xs = [.ref a, c] ∧ ExcAt H a C d ∧ ExcC K C ∧ ClsV c cv ∧ PySem.W.kitOne K (.ref C) cv = some b ∧ Q (.bl b) H
theorem call_isX (hK : X.K = K) : CallR X (.builtin "isinstance") (rIsX K) := by
  subst hK
  intro pins s σ H xs us Q I r hh
  obtain ⟨a, C, d, c, cv, b, ex, ea, xc, cl, eb, q⟩ := hh
  subst ex
  cases r with
  | cons r1 t1 =>
    cases t1 with
    | cons r2 t2 =>
      cases t2
      cases r1
      rw [cl.eq r2]
      obtain ⟨o, od, J⟩ : ∃ (o : Obj) (od : Option Obj), PySem.W.InstAt s.heap a o C od := by
        obtain ⟨h1, h2 | ⟨dd, fs, h2, h3⟩⟩ := ea
        · exact xo_inst (dd := a) (fs := []) I h1 (.inl h2)
        · exact xo_inst I h1 (.inr ⟨h2, h3⟩)
      refine PySem.W.kia_one (PySem.W.kitx_exc (cls_some xc.hd) xc.hg xc.hk xc.hs xc.ha xc.hn xc.ht xc.hm) I.kIn J eb (fun z => nomatch z) fun tk => ?_
      exact ⟨.bl b, H, I.tok tk, rfl, q⟩
/-- isinstance(e, (c1, c2, ..)), e kept, the tuple just laid -/
def rIsXT (K : PySem.W.Frag) : List V → Hp → VK → Prop := fun xs H Q => ∃ (a C : Addr) (d : Option Addr) (tp : Addr) (cs : List V) (ws : List Value) (b : Bool), xs = [.ref a, .ref tp] ∧ H tp = some (.tup cs) ∧ Paired ClsV cs ws ∧ ExcAt H a C d ∧ ExcC K C ∧ PySem.W.kitAny K (.ref C) ws = some b ∧ Q (.bl b) H
theorem call_isXT (hK : X.K = K) : CallR X (.builtin "isinstance") (rIsXT K) := by
  subst hK
  intro pins s σ H xs us Q I r hh
  obtain ⟨a, C, d, tp, cs, ws, b, ex, hT, k, ea, xc, eb, q⟩ := hh
  subst ex
  cases r with
  | cons r1 t1 =>
    cases t1 with
    | cons r2 t2 =>
      cases t2
      cases r1
      cases r2
      obtain ⟨o, od, J⟩ : ∃ (o : Obj) (od : Option Obj), PySem.W.InstAt s.heap a o C od := by
        obtain ⟨h1, h2 | ⟨dd, fs, h2, h3⟩⟩ := ea
        · exact xo_inst (dd := a) (fs := []) I h1 (.inl h2)
        · exact xo_inst I h1 (.inr ⟨h2, h3⟩)
      obtain ⟨_, its, rv, ob, h1, h2, n, h3⟩ := (show ObjOk X.prog X.w H s.heap tp (.tup cs) from I.hok tp _ hT)
      have e3 := ClsV.all k rv
      subst e3
      obtain ⟨oc, od2, dt, sl⟩ := ob
      simp only at h2 h3
      subst h2 h3
      refine PySem.W.kia_tup (PySem.W.kitx_exc (cls_some xc.hd) xc.hg xc.hk xc.hs xc.ha xc.hn xc.ht xc.hm) I.kIn J h1 eb (fun z => nomatch z) fun tk => ?_
      exact ⟨.bl b, H, I.tok tk, rfl, q⟩
/-- e.f, e kept -/
def tXv (K : PySem.W.Frag) (ta : TE) (f : Str) : TE := fun σ H Q => ta σ H fun x H1 => ∃ (a C dd : Addr) (fs : List (Str × V)) (v : V), x = .ref a ∧ H1 a = some (XO a (.ref C) (some dd)) ∧ H1 dd = some (.xd fs) ∧ XfC K C ∧ PySem.W.findIn K (.ref C) f = some none ∧ fs.lookup f = some v ∧ Q v H1
theorem pe_xv (hK : X.K = K) {e : Expr} {ta : TE} {f : Str} {pos : Pos} (he : PE X e ta) (hb : attributeBase e f X.env (eval e X.env) = eval e X.env := by rfl) : PE X (.Attribute e f pos) (tXv K ta f) := by
  subst hK
  constructor
  intro pins s σ H Q I hh
  refine attr_of hb (thn (he.run pins s σ H _ I hh) ?_)
  rintro u s1 ⟨x, H1, I1, rx, a, C, dd, fs, v, ex, ea, ed, xf, hno, hl, q⟩
  subst ex
  cases rx
  obtain ⟨o, fv, eo, z, k⟩ := xo_at (I1.hok a _ ea)
  obtain ⟨mA, hns, hrel⟩ := (show ObjOk X.prog X.w H1 s1.heap dd (.xd fs) from I1.hok dd _ ed)
  obtain ⟨od, hod, hlk⟩ := lookIn_ns hns
  obtain ⟨u, hu, ru⟩ := RelO.some_of (o := mA f) (v := v) (by rw [← hl]; exact hrel f)
  have J : PySem.W.InstAt s1.heap a o C (some od) := ⟨eo, z.1, by unfold PySem.W.notCls; rw [k] <;> rfl, by rw [z.2]; exact hod⟩
  refine HandSPX.exc_get I1.kIn J xf.ga xf.gg xf.exC (PySem.W.findObj_own xf.hdC hno rfl ?_) (handed_of ru) ⟨v, H1, I1.tok _, ru, q⟩
  rw [hlk, hu]
end
end MyG
/-! ### try: .. except x as n: .., the exception known behind it -/
namespace MyG
open PySem PySem.Spec PyProof.Rows L2 Evl
/-- as wAs says it; behind the suite the exception stands tracked at its address -/
def wKeep (K : PySem.W.Frag) (c : Value) (i : Nat) (ts : Addr → Value → Option Addr → TS) (Wout : WX) (D : Ends) : WX := fun cls d σ H =>
  ∃ b, PySem.W.exmOne K cls c = some b ∧
    (b = true → ∀ a, H a = none → ts a cls d
      { nx := fun σ1 H1 => D.nx (σ1.set i none) (upd H1 a (XO a cls d)), rt := D.rt, bk := fun σ1 H1 => D.bk (σ1.set i none) (upd H1 a (XO a cls d)), ct := fun σ1 H1 => D.ct (σ1.set i none) (upd H1 a (XO a cls d)) }
      (σ.set i (some (.ref a))) H) ∧ (b = false → Wout cls d σ H)
section
variable {X : Cx} {x n : Str} {c : Value} {i : Nat} {body suite : List Stmt} {b₀ : Stmt} {np pos pos' : Pos} {tb : WX → TS} {ts : Addr → Value → Option Addr → TS} {Wout : WX}
theorem ps_try_keep (hs : X.stack = X.env :: X.outer) (hf : X.env.frame = some X.env.locals) (hN : X.N.Nodup) (hi : X.N[i]? = some n) (hln : X.env.kindOf n = some .local) (hc : Names X x c) (tk : Takes X Wout)
    (hb : ∀ (W : WX) (pn : List (Addr × Obj)) (xe : Value → Shared → Prop), Takes (X.tr pn xe) W → PassesOwn (model X.prog X.w) X.A X.env xe → PSs (X.tr pn xe) body (tb W))
    (hsu : ∀ (a : Addr) (oe : Obj) (cls : Value) (d : Option Addr) (pn : List (Addr × Obj)), Zc cls d oe → (∃ vs, oe.data = .fields vs) → PSs (X.suite a ((a, oe) :: pn)) (b₀ :: suite) (ts a cls d)) :
    PS X (.Try body [.ExceptHandler (some (.Name x np)) (some n) (b₀ :: suite) pos'] [] [] pos) (fun D σ H => tb (wKeep X.K c i ts Wout D) D σ H) := by
  constructor
  intro pins s σ H D I hread
  have okX := I.ok
  have frames : X.A.frames = some (X.env :: X.outer) := okX.frames.trans (congrArg some hs)
  have here : Loc X.env.scope n := Or.inl hln
  let W := wKeep X.K c i ts Wout D
  let H1 : ExceptHandler := .ExceptHandler (some (.Name x np)) (some n) (b₀ :: suite) pos'
  let xe : Value → Shared → Prop := fun e s₁ => wpAny (model X.prog X.w) X.A (noteFrame e X.env) (fun _ s₂ => wpAny (model X.prog X.w) X.A (setFlight e none) (fun _ s₃ => wpAny (model X.prog X.w) X.A (handleBy e X.env [H1]) (SP X pins D) X.xe s₃) X.xe s₂) X.xe s₁
  -- an exception of the body
  have caught : Takes (X.tr (X.pn ++ pins) xe) W := by
    rintro u s' ⟨a, B, sI, pinsB, σB, HB, cls, d, rfl, IB, nb, up, sky, na, os, ag, b, hb1, yes, no⟩
    have J : Inv X pins σB HB sI := IB.ofTry okX
    have sky' : Sky B (X.env :: X.outer) a (Zc cls d) X.env.locals s'.heap := hs ▸ sky
    show wpAny (model X.prog X.w) X.A (noteFrame (.ref a) X.env) _ _ _
    refine Sky.land Zc.steady frames hf sky' fun h3 fl3 up3 => ?_
    have up' := up.trans up3
    have J3 : Inv X pins σB HB { s' with heap := h3 } := J.landed nb fl3.1 up' os ag
    obtain ⟨o3, f3, ge3, gz3, gd3⟩ := fl3.there
    have notFrame : a ∉ frs (X.env :: X.outer) := fun hm => by
      obtain ⟨_, o', e', hnf⟩ := fl3.2.2.1.mem hm
      rw [ge3] at e'
      cases e'
      exact hnf _ gd3
    have aL : a ≠ X.env.locals := fun q => notFrame (List.mem_filterMap.mpr ⟨X.env, List.mem_cons_self, by rw [hf, q]⟩)
    have aF : a ∉ X.fs := fun hm => by
      obtain ⟨e, he, q⟩ := List.mem_filterMap.mp hm
      exact notFrame (List.mem_filterMap.mpr ⟨e, List.mem_cons_of_mem _ he, q⟩)
    -- it is new
    have fresh : sI.heap.get? a = none := by
      cases q : sI.heap.get? a with
      | none => rfl
      | some ob =>
        have z := nb a ob q (by rw [hs]; exact notFrame)
        rw [fl3.2.1] at z
        cases z
    have new0 : ∀ ob, X.s_0.heap.get? a = some ob → a ∈ X.ex := fun ob q => by
      by_cases hx : a ∈ X.ex
      · exact hx
      · obtain ⟨o', z⟩ := J.base.there a ob q hx
        rw [fresh] at z
        cases z
    have newP : ∀ p ∈ X.pn ++ pins, p.1 ≠ a := fun p hp q => by
      have z := (J.pin p hp).1
      rw [q, fresh] at z
      cases z
    have S3 := J3.suite ge3 gd3 na aL aF
    refine wpAny_handleBy_cons (codeAny_handlers_test ?_) (by intro q; cases q)
    have LT : PySem.W.Looks (model X.prog X.w) h3 (typeOf (.ref a)) cls := fun A' Q' E' s1 k q => wpAny_typeOf_ref (k _ _ ge3) (by rw [gz3.1]; exact q)
    have LM := PySem.W.exm_one (M := model X.prog X.w) J3.kIn LT hb1
    have name : ∀ {Q : Value → Shared → Prop} {E : Value → Shared → Prop}, Q c { s' with heap := h3 } → wpAny (model X.prog X.w) (X.A.mark (some (.ref a))) (eval (.Name x np) X.env) Q E { s' with heap := h3 } := by
      intro Q E q
      rcases hc with ⟨hg, hdb, hm | ⟨hm, hv, hnn⟩⟩
      · exact ld_glob (X := X.suite a ((a, o3) :: (X.pn ++ pins))) S3 hg hm q hdb
      · exact ld_blt (X := X.suite a ((a, o3) :: (X.pn ++ pins))) S3 hg hm hv q hnn hdb
    refine name (LM.here ?_)
    cases b with
    | true =>
      refine codeAny_handlers_suite_as (HandSPX.lands_againZ fl3 fun h4 fl4 up4 => ?_)
      have J4 : Inv X pins σB HB { s' with heap := h4 } := J.landed nb fl4.1 (up'.trans up4) os ag
      obtain ⟨o4, f4, ge4, gz4, gd4⟩ := fl4.there
      have S4 := J4.suite ge4 gd4 na aL aF
      refine store_ok (X := X.suite a ((a, o4) :: (X.pn ++ pins))) (v := .ref a) S4 hN hi here rfl (fun s5 S5 => ?_) (.inr hln)
      have leave : ∀ {σ6 : L2.St} {H6 : Hp} {s6 : Shared} {Q : Shared → Prop} (kept : Bool), Inv (X.suite a ((a, o4) :: (X.pn ++ pins))) [] σ6 H6 s6 → (∀ s7, Inv X pins (σ6.set i none) (if kept = true then upd H6 a (XO a cls d) else H6) s7 → Q s7) →
          wpAny (model X.prog X.w) X.A (do bindName X.env n .none; unbindBehindTheSuite X.env n pos') (fun _ s7 => Q s7) X.xe s6 := by
        intro σ6 H6 s6 Q kept S6 hq
        have I6 : Inv X pins σ6 H6 s6 := S6.unsuite okX
        obtain ⟨g1, g2, _⟩ := S6.pin (a, o4) (List.mem_append_left _ List.mem_cons_self)
        cases kept with
        | true => exact gone_ok (tell_exc I6 g1 gz4 gd4 g2 aL newP new0) hN hi hln hq
        | false => exact gone_ok I6 hN hi hln hq
      refine wpAny_mono ((hsu a o4 cls d (X.pn ++ pins) gz4 ⟨_, gd4⟩).run [] s5 _ HB _ S5 (yes rfl a na)) (fun f s6 hsp => ?_) (fun _ _ z => z.elim)
      cases f with
      | next =>
        obtain ⟨σ6, H6, S6, q6⟩ := hsp
        exact leave true S6 fun s7 J7 => ⟨_, _, J7, q6⟩
      | brk =>
        obtain ⟨σ6, H6, S6, q6⟩ := hsp
        exact leave true S6 fun s7 J7 => ⟨_, _, J7, q6⟩
      | cont =>
        obtain ⟨σ6, H6, S6, q6⟩ := hsp
        exact leave true S6 fun s7 J7 => ⟨_, _, J7, q6⟩
      | ret u =>
        obtain ⟨v6, σ6, H6, S6, r6, q6⟩ := hsp
        exact leave false S6 fun s7 J7 => ⟨_, _, _, J7, r6, q6⟩
    | false =>
      show wpAny _ X.A (handleBy (.ref a) X.env []) _ _ _
      refine wpAny_handleBy_nil ?_
      obtain ⟨k1, k2, k3, oe, fv, T, oT, ft, ge, gz, gd, g1, gr⟩ := id fl3
      unfold PySem.passOn
      refine wpAny_bind (wpAny_field ge gd g1 ?_)
      rw [if_neg (by simp : ¬ ((Value.ref T == Value.none) = true))]
      have up_ : wpAny (model X.prog X.w) X.A (setFlight (.ref a) X.env.frame) (fun _ s4 => wpAny (model X.prog X.w) X.A (throw (.ref a) : Sem Flow) (SP X pins D) X.xe s4) X.xe { s' with heap := h3 } := by
        rw [hf]
        refine HandSPX.setFlight_upZ fl3 fun h4 held up4 => wpAny_throw (tk _ _ ?_)
        exact ⟨a, B, sI, pins, σB, HB, cls, d, rfl, J, nb, up'.trans up4, .inr (.inr (hs.symm ▸ held)), na, os, ag, no rfl⟩
      first
        | exact wpAny_bind (wpAny_pure (wpAny_bind up_))
        | exact wpAny_bind up_
  refine wpAny_Try_except (wpAny_mono ((hb W (X.pn ++ pins) xe caught PassesOwn.looking).run [] s σ H D (I.toTry _) hread) (fun f s1 hsp => ?_) (fun _ _ he => he))
  cases f with
  | next =>
    obtain ⟨σ1, H1', J1, q⟩ := hsp
    exact wpAny_execs_nil ⟨σ1, H1', J1.ofTry okX, q⟩
  | brk =>
    obtain ⟨σ1, H1', J1, q⟩ := hsp
    exact ⟨σ1, H1', J1.ofTry okX, q⟩
  | cont =>
    obtain ⟨σ1, H1', J1, q⟩ := hsp
    exact ⟨σ1, H1', J1.ofTry okX, q⟩
  | ret u =>
    obtain ⟨v, σ1, H1', J1, r, q⟩ := hsp
    exact ⟨v, σ1, H1', J1.ofTry okX, r, q⟩
end
end MyG

set_option maxHeartbeats 4000000
/-! An own exception beneath ValueError whose __init__ begins with super().__init__(..): the super call at the level that knows the running code, the rest as a def. -/
namespace MyG
open PySem PySem.Spec PyProof.Rows L2 Evl
abbrev mwO (a : Addr) : Obj := PySem.W.kxs_mw "ValueError.__init__" a
section
variable {X : Cx} {pins : List (Addr × Obj)} {σ : L2.St} {H : Hp} {s : Shared} {a C u : Addr} {E : Value → Shared → Prop} {A : Around}
/-- the bound built-in __init__, called -/
theorem call_mw {us : List Value} {Q : Value → Shared → Prop} (T : OexC X.K C) (I : Inv X pins σ H s) (e : H a = some (exo a C none)) (hu : s.heap.get? u = some (mwO a)) (hl : us.length ≤ sizeLine) (h : ∀ s', Inv X pins σ H s' → Q .none s') :
    wpAny (model X.prog X.w) A (call (.ref u) us) Q E s := by
  obtain ⟨nm, q, N, bs, bm, sn, sub, ab, col, dd, k0, k1, k2, k3, k5, hC, hbm⟩ := T.cls
  obtain ⟨t1, ho⟩ := exo_at I.hok e
  have hCs := I.kIn _ _ hC
  obtain ⟨hp, g, d, t, os⟩ := s
  refine wpAny_call (codeAny_of_tree ?_)
  show wpAny _ A.in1 (callAny (.ref u) ⟨us, []⟩) _ _ _
  unfold callAny
  refine wpAny_bind (wpAny_load hu ?_)
  have w1 : (Value.type "method-wrapper" == Value.type "method" || Value.type "method-wrapper" == Value.type "builtin_function_or_method" || Value.type "method-wrapper" == Value.type "method-wrapper") = true := by decide
  simp only [mwO, PySem.W.kxs_mw, w1, if_true]
  refine PySem.W.KFB.if_so (by decide) ?_
  refine wpAny_bind (PySem.W.check_bound_init F.excBase_ValueError.toExcCallFacts hCs ho rfl ?_)
  refine wpAny_bind (wpAny_pure (wpAny_pure ?_))
  refine ⟨plainId_quiet F.excBase_ValueError.init.plain _, codeAny_builtin F.excBase_ValueError.initEntry ?_⟩
  refine PySem.W.exc_init_tree (cls := .ref C) (t0 := t1) (dv := none) (c2 := .none) (c3 := .none) (b4 := .bool false) ho hl (fun h' k hx _ => ?_)
  have J := I.write (t' := t) (x := a) (e := a) (o := exo a C none) (by rw [e]; exact True.intro) (.inl rfl) k ⟨_, hx⟩ (exo_ok hx)
  have same : upd H a (exo a C none) = H := by
    funext b
    by_cases hb : b = a
    · rw [hb, upd_same, e]
    · rw [upd_ne hb]
  rw [same] at J
  exact h _ J
end
end MyG
namespace MyG
open PySem PySem.Spec PyProof.Rows L2 Evl NdefX
/-- what the written part says of such a class: C its own, cc the cell of __class__, f its __init__, c the code object -/
structure SupC (P : Program) (K : PySem.W.Frag) (mg : Str → Option Value) (C cc c : Addr) : Prop where
  ox : OexC K C
  cell : ∃ (cl : Value) (d : Option Addr) (sl : Array (Option Value)), K.lookup cc = some ⟨cl, d, .cell (some (.ref C)), sl⟩
  file : ∃ (k : Value) (d : Option Addr) (vs : Array Value) (sl : Array (Option Value)) (nm : Str) (t : Tok), K.lookup c = some ⟨k, d, .fields vs, sl⟩ ∧ vs[2]? = some (.str nm t) ∧ ((P.main.file : Str) == nm) = true
  sup : PySem.W.ks_superIn K C C "__init__" = some (some (.builtin "ValueError.__init__"))
  ve : PySem.W.subIn K (.ref C) (.type "ValueError") = some true
  own : PySem.W.mroIn K C (.ref C) = some true
  opq : PySem.W.nsIn K cStatics "thirdparty.any" = some none
  msup : mg "super" = none
  top : (P.main.scope.names.lookup ("super" : Str)).isSome = false
section
variable {CX : CXT} {P : Program} {w : World} {K : PySem.W.Frag} {mg : Str → Option Value} {base : Heap} {N ps : List Str} {F : NF} {f C cc : Addr} {k : Nat} {sp : Sp} {kV doc pm ct oc : Value} {an od : Option Addr} {osl : Array (Option Value)} {x0 : Str} {ar : Arg}
/-- super(): the object that asks behind C -/
theorem super_obj {A : Around} {outer : List Env} {s : Shared} {H : Hp} {E : XK} {s1 : Shared} {σ : L2.St} {a : Addr} {p0 p1 : Pos} {body : List Stmt} {whole : Sem Value} {Q : Value → Shared → Prop} {E' : Value → Shared → Prop}
    (S : NScope N ps ["__class__"] F.scope) (hcl : F.cl = [(("__class__" : Str), cc)]) (T : SupC P K mg C cc F.c) (hsn : F.scope.names.lookup ("super" : Str) = some .globalImplicit) (hpar : F.params.posonlyargs ++ F.params.args = ar :: F.params.args.tail) (har : ar.arg = x0) (hx0 : N[0]? = some x0) (hk0 : F.scope.names.lookup x0 = some .local)
    (lk : K.lookup f = some ⟨oc, od, .func (PySem.W.fnX F.name F.qual F.params F.body F.scope F.cl .none kV doc pm an (.ref F.c) ct), osl⟩)
    (I : Inv (ncx CX P w K mg base N F f A outer s H E) [] σ H s1) (h0 : σ[0]? = some (some (.ref a))) (e : H a = some (exo a C none))
    (q : ∀ s2, Inv (ncx CX P w K mg base N F f A outer s H E) [] σ H s2 → s2.heap.get? s1.heap.objs.size = some (PySem.W.ks_superObj C a C) → Q (.ref s1.heap.objs.size) s2) :
    PySem.wpAt (model P w) (A.deeper (envF F f s.heap.objs.size)) (.func body (envF F f s.heap.objs.size)) (attributeBase (.Call (.Name "super" p0) [] [] p1) "__init__" (envF F f s.heap.objs.size) whole) Q E' s1 := by
  obtain ⟨cl0, d0, sl0, hcell⟩ := T.cell
  obtain ⟨k1, d1, vs1, sl1, nm1, t1, hfile, hvs, hnm⟩ := T.file
  have KX : K.In s1.heap := I.kIn
  obtain ⟨nm, q0, N0, bs, bm, sn, sub, ab, col, dd, k0, k1', k2, k3, k5, hC, hbm⟩ := T.ox.cls
  obtain ⟨t2, ho⟩ := exo_at I.hok e
  have mods := I.mod
  obtain ⟨m, hm, hloc⟩ := I.loc
  obtain ⟨mb, hmb, hbb⟩ := mods.blt
  have hcls : F.scope.names.lookup ("__class__" : Str) = some .free := S.frk _ (List.mem_singleton.mpr rfl)
  have kin : K.In base := mods.kin
  have bk := I.bk
  obtain ⟨hp, g, d, tk, os⟩ := s1
  refine PySem.ks_wpAt_super_base (env := envF F f s.heap.objs.size) hsn hcls (by decide) rfl (KX _ _ lk) rfl (ar := ar) (by show (F.params.posonlyargs ++ F.params.args).head? = some ar; rw [hpar]; rfl) rfl (KX _ _ hfile) rfl hvs hnm T.top ?_
  refine PySem.W.ks_loadName_global S.kind hsn (Calls.loadGlobal_builtin (env := envF F f s.heap.objs.size) (mods.glob.keeps bk) T.msup (hmb.keeps bk) ((hbb _ (by decide +kernel)).trans (by decide +kernel)) ⟨rfl, ?_⟩)
  refine wpAny_loadName_free S.kind hcls (by show F.cl.lookup _ = some cc; rw [hcl]; rfl) ⟨_, KX _ _ hcell, rfl⟩ ?_
  obtain ⟨v, rv, hv⟩ := hloc 0 x0 (.ref a) hx0 h0 (.inl hk0)
  cases rv
  have hv2 : m x0 = some (.ref a) := by
    rcases hv with ⟨_, z⟩ | ⟨z, _⟩
    · exact z
    · have z' : F.scope.names.lookup x0 = some .cell ∨ F.scope.names.lookup x0 = some .free := z
      rw [hk0] at z'
      rcases z' with z' | z' <;> cases z'
  refine wpAny_loadName_local S.kind (by rw [har]; exact hk0) hm (by rw [har]; exact hv2) ?_
  have hCs := KX _ _ hC
  have hsub := PySem.W.looks_mroIn (M := model P w) KX T.own
  refine ks_wpAny_isType_cls hCs rfl ⟨rfl, ?_⟩
  refine ks_wpAny_call_super hCs rfl ho rfl (fun c z => nomatch z) hsub (fun h' hso k => ?_)
  exact q _ (I.kept (t' := tk) k) hso
/-- a def whose first statement is super().__init__(..) -/
theorem okS {fd : FuncData} {p0 p1 apos pos pos2 : Pos} {e0 : Expr} {es : List Expr} {rest : List Stmt} {ps' : List Str}
    (hfd : fd = PySem.W.fnX F.name F.qual F.params F.body F.scope F.cl .none kV doc pm an (.ref F.c) ct) (S : NScope N ps ["__class__"] F.scope) (hcl : F.cl = [(("__class__" : Str), cc)]) (T : SupC P K mg C cc F.c) (hsn : F.scope.names.lookup ("super" : Str) = some .globalImplicit)
    (hpar : F.params.posonlyargs ++ F.params.args = ar :: F.params.args.tail) (har : ar.arg = x0) (hx0 : N[0]? = some x0) (hk0 : F.scope.names.lookup x0 = some .local) (hps : ps = x0 :: ps') (hcd : PySem.W.codeIn K (.ref F.c) F.qual = true)
    (lk : K.lookup f = some ⟨oc, od, .func fd, osl⟩) (hb : F.body = .Expr (.Call (.Attribute (.Call (.Name "super" p0) [] [] p1) "__init__" apos) (e0 :: es) [] pos) pos2 :: rest) (len : ∀ vs H Q E, sp vs H Q E → vs.length = ps.length)
    (hbody : ∀ (A : Around) (outer : List Env) (s : Shared) (H : Hp) (vs : List V) (Q : VK) (E : XK), Room k (A.deeper (envF F f s.heap.objs.size)) → sp vs H Q E →
      ∃ (a : Addr) (ta : TA) (t : TS), vs.head? = some (.ref a) ∧ H a = some (exo a C none) ∧ PA (ncx CX P w K mg base N F f A outer s H E) (e0 :: es) ta ∧ PSs (ncx CX P w K mg base N F f A outer s H E) rest t ∧
        ta (startF N vs [some (.ref C)]) H fun ws H1 => ws.length ≤ 1000 ∧ H1 a = some (exo a C none) ∧ t { nx := fun _ H' => Q .non H', rt := Q } (startF N vs [some (.ref C)]) H1)
    (hin : ∀ L, interactive (envF F f L) = false := by intro L; rfl) (hsw : ∀ L, swapsWith (.Call (.Attribute (.Call (.Name "super" p0) [] [] p1) "__init__" apos) (e0 :: es) [] pos) none pos2.line (envF F f L) = pure false := by intro L; rfl)
    (hst : ∀ L, starEach (e0 :: es) (envF F f L) = (false, eval e0 (envF F f L)) :: starEach es (envF F f L) := by intro L; rfl) (hpl : ∀ L, (backTo pos (starEach es (envF F f L))).any (·.1) = false := by intro L; rfl)
    {pl : Sem Bool} (hev : ∀ L, eval (.Call (.Attribute (.Call (.Name "super" p0) [] [] p1) "__init__" apos) (e0 :: es) [] pos) (envF F f L) = (do
      let ov ← attributeBase (.Call (.Name "super" p0) [] [] p1) "__init__" (envF F f L) (eval (.Call (.Name "super" p0) [] [] p1) (envF F f L))
      standAt apos.atName
      let (g, first) ← holding [ov] (getMethod ov "__init__" pl)
      callWith pos g first (backTo pos (starEach (e0 :: es) (envF F f L))) []) := by intro L; rfl) :
    FnOk P w K mg base CX (k + 1) f fd ps sp := by
  subst hfd
  refine ⟨len, fun A outer s H as us vs Q E hr en hbind r hsp => ?_⟩
  have KX : K.In s.heap := en.mod.kin.keeps fun b o z => (en.bs b o z).1
  have lim : s.heap.NoLimit := en.mod.nolimit.keeps fun b o z => (en.bs b o z).1
  have hl := len _ _ _ _ hsp
  obtain ⟨a, ta, t, hhead, ha, hA, hT, hread⟩ := hbody A outer s H vs Q E (hr.deeper _) hsp
  obtain ⟨cl0, d0, sl0, hcell⟩ := T.cell
  have cells : CellsAt F.cl ["__class__"] [some (V.ref C)] s.heap H := by
    refine ⟨rfl, fun y c hy => ?_, fun x y c hx hy => ?_, fun i y hi => ?_⟩
    · rw [hcl] at hy
      have hc : c = cc := by
        by_cases z : y = ("__class__" : Str)
        · subst z
          exact (Option.some.inj hy).symm
        · have z' : (y == ("__class__" : Str)) = false := by simpa using z
          simp [List.lookup, z'] at hy
      subst hc
      exact ⟨(en.bs _ _ (en.mod.kin _ _ hcell)).2, _, _, KX _ _ hcell, rfl⟩
    · rw [hcl] at hx hy
      have one : ∀ {z : Str}, List.lookup z [(("__class__" : Str), cc)] = some c → z = "__class__" := fun {z} hz => by
        by_cases q : z = ("__class__" : Str)
        · exact q
        · have q' : (z == ("__class__" : Str)) = false := by simpa using q
          simp [List.lookup, q'] at hz
      rw [one hx, one hy]
    · have hi0 : i = 0 ∧ y = ("__class__" : Str) := by
        cases i with
        | zero => exact ⟨rfl, (Option.some.inj hi).symm⟩
        | succ n => simp at hi
      obtain ⟨rfl, rfl⟩ := hi0
      refine ⟨cc, by rw [hcl]; rfl, fun v hv => ?_⟩
      obtain rfl : v = V.ref C := (Option.some.inj (Option.some.inj hv)).symm
      exact ⟨.ref C, rfl, _, KX _ _ hcell, rfl⟩
  refine ks_codeAny_call_defAt (fd := PySem.W.fnX F.name F.qual F.params F.body F.scope F.cl .none kV doc pm an (.ref F.c) ct) (body := F.body) (binds := ps.zip us) hr.depth (KX _ _ lk) rfl lim (PySem.W.codeRec_of KX hcd) rfl hbind S.nocell (fun y hy => S.par y.1 (List.of_mem_zip (show (y.1, y.2) ∈ ps.zip us from hy)).1) (fun h1 hns kp => ?_) S.co S.gen S.kind
  have I : Inv (ncx CX P w K mg base N F f A outer s H E) [] (startF N vs [some (.ref C)]) H { s with heap := h1, toks := s.toks + (ps.zip us).length } := inv_startN S hr.hd en hl r cells hns kp
  have h0 : (startF N vs [some (V.ref C)])[0]? = some (some (.ref a)) := by
    cases vs with
    | nil => cases hhead
    | cons v vs =>
      obtain rfl := Option.some.inj hhead
      rfl
  show PySem.wpAt (model P w) (A.deeper (envF F f s.heap.objs.size)) (.func F.body (envF F f s.heap.objs.size)) (execs F.body (envF F f s.heap.objs.size)) _ _ _
  rw [hb]
  refine ks_wpAt_execs_cons (ks_wpAt_Expr_any (ks_wpAt_MethodCall (pl := pl) ?_ (hev _)) (hin _) (hsw _))
  refine super_obj S hcl T hsn hpar har hx0 hk0 lk I h0 ha (fun s2 I2 hso => ?_)
  -- the bound built-in
  obtain ⟨nm, q, N0, bs, bm, sn, sub, ab, col, dd, k0, k1, k2, k3, k5, hC, hbm⟩ := T.ox.cls
  have hc : PySem.W.clsIn K C = some { name := nm, bases := bs, mro := .ref C :: bm, ns := N0, qualname := q, hasDict := true, slotNames := sn, subclasses := sub, abstract := ab, collection := col, hasDel := false } := by
    unfold PySem.W.clsIn
    rw [hC] <;> rfl
  have K2 : K.In s2.heap := I2.kIn
  obtain ⟨t2, ho⟩ := exo_at I2.hok ha
  have J2 : PySem.W.InstAt s2.heap a _ C none := ⟨ho, rfl, rfl, trivial⟩
  have isVE : PySem.W.Looks (model P w) s2.heap (isInstance (.ref a) (.type "ValueError")) true := J2.type.andThen (PySem.W.looks_subIn K2 T.ve)
  have sup := T.sup
  unfold PySem.W.ks_superIn at sup
  rw [hc] at sup
  obtain ⟨hp, g, d, tk, os⟩ := s2
  refine PySem.W.kxs_getMethod PySem.W.kxs_ValueError hso (PySem.W.looks_opaque K2 T.opq) (l₀ := .ref C :: bm) (fun A' Q' E' s' kk qq => wpAny_bind ((PySem.W.looks_clsIn K2 hc) A' _ E' s' kk (wpAny_pure qq))) rfl K2 sup isVE (PySem.W.ks_ne K2 J2 hc) (by decide) ?_
  have hu : (hp.push (mwO a)).get? hp.objs.size = some (mwO a) := Heap.get?_push_at rfl rfl
  have I3 : Inv (ncx CX P w K mg base N F f A outer s H E) [(hp.objs.size, mwO a)] (startF N vs [some (.ref C)]) H ⟨hp.push (mwO a), g, d, tk + 1, os⟩ := by
    refine (I2.kept (t' := tk + 1) (h' := hp.push (mwO a)) fun b o z => Heap.get?_push_of_some _ z).pins_of fun p hp' => ?_
    obtain rfl := List.mem_singleton.mp hp'
    exact ⟨hu, I2.hok.fresh (Nat.le_refl _), Nat.ne_of_gt I2.lt, I2.nofs (Nat.le_refl _), fun v z => nomatch z⟩
  show wpAny (model P w) (A.deeper (envF F f s.heap.objs.size)) (callWith pos (.ref hp.objs.size) [] (backTo pos (starEach (e0 :: es) (envF F f s.heap.objs.size))) []) _ _ _
  rw [hst]
  refine PySem.W.kxs_callWith (i := "ValueError.__init__") (x := a) (by show (false || (backTo pos (starEach es (envF F f s.heap.objs.size))).any (·.1)) = false; rw [hpl]; rfl) (Calls.evalArgs_plain ?_)
  have hrun := hA.run pos [(hp.objs.size, mwO a)] _ _ H _ I3 hread
  rw [show starEach (e0 :: es) (ncx CX P w K mg base N F f A outer s H E).env = (false, eval e0 (envF F f s.heap.objs.size)) :: starEach es (envF F f s.heap.objs.size) from hst _] at hrun
  refine wpAny_mono hrun (fun us' s3 hq => ?_) (fun e' s' z => z)
  obtain ⟨ws, H3, I4, rw4, hz, ha4, hT4⟩ := hq
  have hu4 : s3.heap.get? hp.objs.size = some (mwO a) := (I4.pin _ (List.mem_append_right _ (List.mem_singleton.mpr rfl))).1
  refine ⟨hu4, ?_⟩
  have hlen : us'.length ≤ sizeLine := by
    rw [← Paired.length rw4, sizeLine_eq]
    omega
  refine call_mw (u := hp.objs.size) T.ox I4 ha4 hu4 hlen (fun s4 I5 => ?_)
  -- the rest
  have I6 : Inv (ncx CX P w K mg base N F f A outer s H E) [] (startF N vs [some (.ref C)]) H3 s4 := I5.pins_of fun p hp' => (nomatch hp')
  refine wpAt_of_wpAny (wpAny_mono (hT.run [] s4 _ H3 { nx := fun _ H' => Q .non H', rt := Q } I6 hT4) (fun fl s' hs => ?_) (fun e' s' z => z))
  have fin : ∀ {σ' : L2.St} {H' : Hp} {v : V} {u : Value}, Inv (ncx CX P w K mg base N F f A outer s H E) [] σ' H' s' → L2.RelV v u → Q v H' → CE outer P w H s Q u s' :=
    fun {σ' H' v u} J rv qq => ⟨v, H', J.os, J.bare, J.base, J.hok, rv, qq⟩
  cases fl with
  | ret u =>
    obtain ⟨v, σ', H', J, rv, qq⟩ := hs
    exact fin J rv qq
  | next =>
    obtain ⟨σ', H', J, qq⟩ := hs
    exact fin (v := V.non) (u := Value.none) J rfl qq
  | brk => exact hs.choose_spec.choose_spec.2.elim
  | cont => exact hs.choose_spec.choose_spec.2.elim
end
end MyG

set_option maxHeartbeats 2000000
/-! repr of a dict of flat things, and of a pair with one in it. -/
namespace MyG
open PySem PySem.Spec PyProof.Rows L2 Evl
def keyD : Key → PyData
  | .inl i => .int i
  | .inr x => .str x
/-- flat things, as data -/
inductive FlD : V → PyData → Prop
  | non : FlD .non .none
  | bl (b : Bool) : FlD (.bl b) (.bool b)
  | int (i : Int) : FlD (.int i) (.int i)
  | str (x : Str) : FlD (.str x) (.str x)
theorem fl_reads {h : Heap} {v : V} {d : PyData} {u : Value} (f : FlD v d) (r : RelV v u) : Reads h u d [] := by
  cases f with
  | non => cases r; exact .none
  | bl b => cases r; exact .bool b
  | int i => obtain ⟨t, rfl⟩ := r; exact .int i t
  | str x => obtain ⟨t, rfl⟩ := r; exact .str x t
def FlAll : List (Key × V) → List (PyData × PyData) → Prop := Paired fun p q => q.1 = keyD p.1 ∧ FlD p.2 q.2
theorem key_reads {h : Heap} {k : Key} {v : Value} (e : keyIs k v = true) : Reads h v (keyD k) [] := by
  rcases keyIs_shape e with ⟨i, t, rfl, rfl⟩ | ⟨x, t, rfl, rfl⟩
  · exact .int i t
  · exact .str x t
theorem dict_parts {P : Program} {w : World} {h : Heap} : ∀ {kvs : List (Key × V)} {vs : List (Key × Value)} {es : List DictEntry} {ds : List (PyData × PyData)}, KV kvs vs → Pairs (mixKind P w) es vs → FlAll kvs ds → ReadsAll h (es.map (·.key)) (ds.map (·.1)) [] ∧ ReadsAll h (es.map (·.val)) (ds.map (·.2)) []
  | _, _, _, _, .nil, .nil, .nil => ⟨.nil, .nil⟩
  | _, _, _, _, .cons ⟨hk, hr⟩ t, .cons he hv u, .cons ⟨h1, h2⟩ z => by
    obtain ⟨a, b⟩ := dict_parts t u z
    refine ⟨ReadsAll.cons (as := []) (bs := []) ?_ a, ReadsAll.cons (as := []) (bs := []) ?_ b⟩
    · dsimp only
      rw [h1, hk]
      exact key_reads he
    · dsimp only
      rw [hv]
      exact fl_reads h2 hr
section
variable {X : Cx} {pins : List (Addr × Obj)} {σ : L2.St} {H : Hp} {s : Shared}
theorem dict_reads {a : Addr} {kvs : List (Key × V)} {ds : List (PyData × PyData)} (I : Inv X pins σ H s) (h : H a = some (.dK kvs)) (f : FlAll kvs ds) : Reads s.heap (.ref a) (.dict ds) [a] ∧ a ≠ sysModules := by
  obtain ⟨_, hS, vs, r, o, es, ep, e1, e2, e3, _, e5, _⟩ := (show ObjOk X.prog X.w H s.heap a (.dK kvs) from I.hok a _ h)
  obtain ⟨p1, p2⟩ := dict_parts (h := s.heap) r e5 f
  exact ⟨Reads.dict (as := []) (bs := []) e1 e2.1 e3 p1 p2, beq_eq_false_iff_ne.mp hS⟩
/-- repr of a pair of a flat thing and a dict of flat things -/
def rReprP : List V → Hp → VK → Prop := fun xs H Q => ∃ (t a : Addr) (v : V) (d : PyData) (kvs : List (Key × V)) (ds : List (PyData × PyData)), xs = [.ref t] ∧ H t = some (.tup [v, .ref a]) ∧ H a = some (.dK kvs) ∧ FlD v d ∧ FlAll kvs ds ∧
  (PyData.tuple [d, .dict ds]).showable = true ∧ (PyData.tuple [d, .dict ds]).depth ≤ 40 ∧ (PyData.tuple [d, .dict ds]).shown.length ≤ sizeLine ∧ Q (.str (PyData.tuple [d, .dict ds]).shown) H
theorem call_reprP {k : Nat} (hgd : X.A.guards = some []) (room : Room k X.A) : CallR X (.builtin "repr") rReprP := by
  intro pins s σ H xs us Q I r hh
  obtain ⟨t, a, v, d, kvs, ds, ex, ht, ha, fv, fd, hs, hdep, hsz, q⟩ := hh
  subst ex
  obtain ⟨u, rfl, ru⟩ := vals1 r
  cases ru
  obtain ⟨_, its, rv, o, e1, e2, n, e3⟩ := (show ObjOk X.prog X.w H s.heap t (.tup [v, .ref a]) from I.hok t _ ht)
  obtain ⟨rd, hne⟩ := dict_reads I ha fd
  have un := room.units
  have all : ReadsAll s.heap its [d, .dict ds] [a] := by
    cases rv with
    | cons r1 t1 =>
      cases t1 with
      | cons r2 t2 =>
        cases t2
        cases r2
        exact ReadsAll.cons (as := []) (bs := [a]) (fl_reads fv r1) (ReadsAll.cons (as := [a]) (bs := []) rd .nil)
  have whole : Reads s.heap (.ref t) (.tuple [d, .dict ds]) [a] := Reads.tuple e1 e2 e3 (by simpa using all)
  refine repr_of_reads' whole hs (fun _ hm => hne (List.mem_singleton.mp hm).symm) hgd (by omega) (fun _ _ z => z) (fun h' u' tk kp => ?_) hsz
  exact ⟨.str _, H, I.kept kp, ⟨_, rfl⟩, q⟩
end
end MyG

set_option maxHeartbeats 2000000
/-! Promises put together: a def that is called rightly or refuses. -/
namespace MyG
open PySem PySem.Spec PyProof.Rows L2 Evl
section
variable {P : Program} {w : World} {K : PySem.W.Frag} {mg : Str → Option Value} {base : Heap} {k j : Nat} {f : Addr} {fd : FuncData} {ps : List Str} {sp sp' : Sp}
theorem fn_lift (F : FnOk P w K mg base CX0 k f fd ps sp) : FnOk P w K mg base (L2.CX P w) k f fd ps sp := ⟨F.len, fun A outer s H args us vs Q E room e0 b r h => codeAny_mono (F.run A outer s H args us vs Q E room e0 b r h) fun r s' hr => by
  match r, hr with
  | .ok (.ret u), hr => exact hr
  | .error e, hr => exact False.elim hr⟩
theorem fn_or {CX : CXT} (F : FnOk P w K mg base CX k f fd ps sp) (G : FnOk P w K mg base CX k f fd ps sp') : FnOk P w K mg base CX k f fd ps (fun vs H Q E => sp vs H Q E ∨ sp' vs H Q E) :=
  ⟨fun vs H Q E h => h.elim (F.len vs H Q E) (G.len vs H Q E), fun A outer s H args us vs Q E room e0 b r h => h.elim (F.run A outer s H args us vs Q E room e0 b r) (G.run A outer s H args us vs Q E room e0 b r)⟩
end
/-! ### xs.count(y), flat things -/
section
variable {X : Cx}
def rCountF (K : PySem.W.Frag) : V → List V → Hp → VK → Prop := fun x xs H Q => ∃ (a : Addr) (ys : List V) (y : V), x = V.ref a ∧ xs = [y] ∧ SqL K H a ys ∧ flatV y = true ∧ ys.all flatV = true ∧ Q (.int ((ys.countP fun z => eqV z y : Nat) : Int)) H
theorem count_eqU {y : V} : ∀ {ys : List V} {us : List Value}, Vals ys us → ys.all flatV = true → us.countP (eqU y) = ys.countP fun z => eqV z y
  | _, _, .nil, _ => rfl
  | _, _, .cons (a := z) (b := u) h t, f => by
    rw [List.all_cons, Bool.and_eq_true] at f
    rw [List.countP_cons, List.countP_cons, count_eqU t f.2, eqU_of h f.1]
theorem mt_countF : MtR X "list.count" (rCountF X.K) := by
  intro pins s σ H x xs v us Q I rx rxs h
  obtain ⟨a, ys, y, rfl, rfl, hs, fy, fys, q⟩ := h
  cases rx
  cases rxs with
  | cons ry rt =>
    rename_i uy ut
    cases rt
    obtain ⟨its, rv, ⟨⟨cls, dd, data, sl⟩, n, ho, hc, hdn, hd⟩, hlen⟩ := I.list hs
    simp only at hc hd
    subst hc hd
    refine call_meets PySem.F.slot_list_count ⟨_, ho, rfl⟩ PySem.F.entry_list_count (PySem.F.args_list_count_2 _ _)
      (SeqAt.list_countAt a its.toArray n dd sl uy (eqU y)) ⟨ho, fun u' hu' => mem_eqAt ry fy rv fys u' (by simpa using hu'), ?_⟩
    have ec : its.toArray.toList.countP (eqU y) = ys.countP fun z => eqV z y := count_eqU rv fys
    refine ⟨.int ((ys.countP fun z => eqV z y : Nat) : Int), H, I.tok _, ⟨s.toks, ?_⟩, q⟩
    show Value.int ((its.toArray.toList.countP (eqU y) : Nat) : Int) s.toks = Value.int ((ys.countP fun z => eqV z y : Nat) : Int) s.toks
    rw [ec]
end
section
variable {K : PySem.W.Frag} {σ : L2.St} {H : Hp} {te : TE} {C D a : Addr} {d : Option Addr} {b : Bool}
theorem ev_isX (ha : Ev te σ H (.ref a)) (h : ExcAt H a C d) (e : ExcC K C) (k : PySem.W.kitOne K (.ref C) (.ref D) = some b) : Ev (tCB (rIsX K) (tCons te (tCons (tC (.ref D)) tNil))) σ H (.bl b) := fun H1 e1 Q q =>
  ha H1 e1 _ fun H2 e2 => ⟨a, C, d, .ref D, .ref D, b, rfl, h.ext (e1.trans e2), e, .own D, k, q H2 e2⟩
theorem ev_isXt {T : String} (ha : Ev te σ H (.ref a)) (h : ExcAt H a C d) (e : ExcC K C) (k : PySem.W.kitOne K (.ref C) (.type T) = some b) : Ev (tCB (rIsX K) (tCons te (tCons (tC (.ty T)) tNil))) σ H (.bl b) := fun H1 e1 Q q =>
  ha H1 e1 _ fun H2 e2 => ⟨a, C, d, .ty T, .type T, b, rfl, h.ext (e1.trans e2), e, .ty T, k, q H2 e2⟩
theorem ev_isX2 {D1 D2 : Addr} {b1 b2 : Bool} (ha : Ev te σ H (.ref a)) (h : ExcAt H a C d) (e : ExcC K C) (k1 : PySem.W.kitOne K (.ref C) (.ref D1) = some b1) (k2 : PySem.W.kitOne K (.ref C) (.ref D2) = some b2) :
    Ev (tCB (rIsXT K) (tCons te (tCons (tTup (tCons (tC (.ref D1)) (tCons (tC (.ref D2)) tNil))) tNil))) σ H (.bl (b1 || b2)) := fun H1 e1 Q q =>
  ha H1 e1 _ fun H2 e2 => ⟨by show 2 ≤ sizeLine; decide, fun p hp => ⟨a, C, d, p, [.ref D1, .ref D2], [.ref D1, .ref D2], _, rfl, upd_same, .cons (.own _) (.cons (.own _) .nil), (h.ext (e1.trans e2)).ext (Ex.new hp), e, by
    unfold PySem.W.kitAny
    rw [k1]
    cases b1 with
    | true => rfl
    | false =>
      show PySem.W.kitAny _ _ _ = _
      unfold PySem.W.kitAny
      rw [k2]
      cases b2 <;> rfl, q _ (e2.trans (Ex.new hp))⟩⟩
theorem ev_count {xs : List V} {y : V} (ha : Ev te σ H (.ref a)) (h : H a = some (.lst xs)) (fy : flatV y = true) (fx : xs.all flatV = true) : Ev (tBM K "list" (rCountF K) te (tCons (tC y) tNil)) σ H (.int ((xs.countP fun z => eqV z y : Nat) : Int)) := fun H1 e1 Q q =>
  ha H1 e1 _ fun H2 e2 => ⟨.inl ⟨rfl, xs, SqL.of ((e1.trans e2) _ _ h)⟩, a, xs, y, rfl, rfl, SqL.of ((e1.trans e2) _ _ h), fy, fx, q H2 e2⟩
theorem ev_index {xs : List V} {y z : V} {j : Nat} (ha : Ev te σ H (.ref a)) (h : H a = some (.lst xs)) (fy : flatV y = true) (fx : xs.all flatV = true) (hz : xs[j]? = some z) (hj : eqV z y = true) (hno : ∀ (m : Nat) (z' : V), m < j → xs[m]? = some z' → eqV z' y = false) : Ev (tBM K "list" (rIndex K) te (tCons (tC y) tNil)) σ H (.int (j : Nat)) := fun H1 e1 Q q =>
  ha H1 e1 _ fun H2 e2 => ⟨.inl ⟨rfl, xs, SqL.of ((e1.trans e2) _ _ h)⟩, a, xs, y, j, z, rfl, rfl, SqL.of ((e1.trans e2) _ _ h), fy, fx, hz, hj, hno, q H2 e2⟩
theorem ev_xv {f : Str} {dd : Addr} {fs : List (Str × V)} {v : V} (ha : Ev te σ H (.ref a)) (h : H a = some (XO a (.ref C) (some dd))) (hd : H dd = some (.xd fs)) (x : XfC K C) (no : PySem.W.findIn K (.ref C) f = some none) (lk : fs.lookup f = some v) : Ev (tXv K te f) σ H v := fun H1 e1 Q q =>
  ha H1 e1 _ fun H2 e2 => ⟨a, C, dd, fs, v, rfl, (e1.trans e2) _ _ h, (e1.trans e2) _ _ hd, x, no, lk, q H2 e2⟩
theorem el_catN {ta tb : TE} {xs zs : List V} (h1 : EvL ta σ H xs) (h2 : EvL tb σ H zs) (hl : xs.length + zs.length ≤ 1000) : EvL (tOp rCat ta tb) σ H (xs ++ zs) := fun H1 e Q q =>
  h1 H1 e _ fun p H2 hp e2 hx => h2 H2 (e.trans e2) _ fun r H3 hr e3 hz => ⟨p, r, xs, zs, rfl, rfl, e3 _ _ hx, hz, Nat.le_trans hl (by decide), fun t ht => q t _ (fresh_back (e2.trans e3) ht) ((e2.trans e3).trans (Ex.new ht)) upd_same⟩
/-- a list that stands, in a place where a new one may stand too: it is known by what it holds -/
theorem el_catV {tb : TE} {p : Addr} {ta : TE} {xs zs : List V} (h1 : EvL ta σ H xs) (h2 : Ev tb σ H (.ref p)) (hz : H p = some (.lst zs)) (hl : xs.length + zs.length ≤ 1000) : EvL (tOp rCat ta tb) σ H (xs ++ zs) := fun H1 e Q q =>
  h1 H1 e _ fun r H2 hr e2 hx => h2 H2 (e.trans e2) _ fun H3 e3 => ⟨r, p, xs, zs, rfl, rfl, e3 _ _ hx, ((e.trans e2).trans e3) _ _ hz, Nat.le_trans hl (by decide), fun t ht => q t _ (fresh_back (e2.trans e3) ht) ((e2.trans e3).trans (Ex.new ht)) upd_same⟩
/-- a list that is known -/
theorem ev_lst_ix {xs : List V} {tk : TE} {j : Nat} {v : V} (h : EvL te σ H xs) (hk : ∀ H1, Ex H H1 → Ev tk σ H1 (.int (j : Nat))) (hj : xs[j]? = some v) : Ev (tOp (rIxL K) te tk) σ H v := fun H1 e Q q =>
  h H1 e _ fun p H2 hp e2 hx => hk H2 (e.trans e2) H2 (Ex.refl _) _ fun H3 e3 => ⟨p, xs, j, v, rfl, rfl, SqL.of (e3 _ _ hx), atI_nat hj, q H3 (e2.trans e3)⟩
end
end MyG

set_option maxHeartbeats 2000000
namespace K03
open PySem PySem.Spec PyProof.Rows L2 Evl MyG
def top (i : Nat) : Stmt := PySem.Challenge.pw_ringless_k03_strange_doors.main.body.getD i (.Pass ⟨0, 0, 0, 0⟩)
abbrev s_l_state : Stmt := (top 24)
abbrev n_l_state : List Str := ["_law_script", "_law_cells", "_law_cell"]
theorem sc_l_state : FnScope ["_law_script", "_law_cells", "_law_cell"] ["_law_script"] (defScope s_l_state) := ⟨rfl, rfl, rfl, by decide +kernel, rfl, by decide +kernel, by decide +kernel⟩
abbrev s_l_draw : Stmt := (top 25)
abbrev n_l_draw : List Str := ["_law_state_here", "_law_many", "_law_at", "_law_cell"]
theorem sc_l_draw : FnScope ["_law_state_here", "_law_many", "_law_at", "_law_cell"] ["_law_state_here", "_law_many"] (defScope s_l_draw) := ⟨rfl, rfl, rfl, by decide +kernel, rfl, by decide +kernel, by decide +kernel⟩
abbrev s_l_places : Stmt := (top 26)
abbrev n_l_places : List Str := ["_law_state_here", "_law_found", "_law_turn", "_law_way", "_law_one"]
theorem sc_l_places : FnScope ["_law_state_here", "_law_found", "_law_turn", "_law_way", "_law_one"] ["_law_state_here"] (defScope s_l_places) := ⟨rfl, rfl, rfl, by decide +kernel, rfl, by decide +kernel, by decide +kernel⟩
abbrev s_l_roads : Stmt := (top 27)
abbrev n_l_roads : List Str := ["_law_state_here", "_law_places_here", "_law_found", "_law_turn", "_law_left", "_law_one", "_law_other"]
theorem sc_l_roads : FnScope ["_law_state_here", "_law_places_here", "_law_found", "_law_turn", "_law_left", "_law_one", "_law_other"] ["_law_state_here", "_law_places_here"] (defScope s_l_roads) := ⟨rfl, rfl, rfl, by decide +kernel, rfl, by decide +kernel, by decide +kernel⟩
abbrev s_l_thing : Stmt := (top 28)
abbrev n_l_thing : List Str := ["_law_state_here", "_law_some", "_law_odd"]
theorem sc_l_thing : FnScope ["_law_state_here", "_law_some", "_law_odd"] ["_law_state_here", "_law_some"] (defScope s_l_thing) := ⟨rfl, rfl, rfl, by decide +kernel, rfl, by decide +kernel, by decide +kernel⟩
abbrev s_l_is_number : Stmt := (top 29)
abbrev n_l_is_number : List Str := ["_law_thing_here", "_law_some"]
theorem sc_l_is_number : FnScope ["_law_thing_here", "_law_some"] ["_law_thing_here", "_law_some"] (defScope s_l_is_number) := ⟨rfl, rfl, rfl, by decide +kernel, rfl, by decide +kernel, by decide +kernel⟩
abbrev s_l_called : Stmt := (top 30)
abbrev n_l_called : List Str := ["_law_net", "_law_way", "_law_road", "_law_place"]
theorem sc_l_called : FnScope ["_law_net", "_law_way", "_law_road", "_law_place"] ["_law_net", "_law_way", "_law_road", "_law_place"] (defScope s_l_called) := ⟨rfl, rfl, rfl, by decide +kernel, rfl, by decide +kernel, by decide +kernel⟩
abbrev s_l_tried : Stmt := (top 31)
abbrev n_l_tried : List Str := ["_law_net", "_law_way", "_law_road", "_law_place", "_law_caught", "e", "_law_marks"]
theorem sc_l_tried : FnScope ["_law_net", "_law_way", "_law_road", "_law_place", "_law_caught", "e", "_law_marks"] ["_law_net", "_law_way", "_law_road", "_law_place"] (defScope s_l_tried) := ⟨rfl, rfl, rfl, by decide +kernel, rfl, by decide +kernel, by decide +kernel⟩
abbrev s_is_number : Stmt := (top 18)
abbrev n_is_number : List Str := ["thing"]
theorem sc_is_number : FnScope ["thing"] ["thing"] (defScope s_is_number) := ⟨rfl, rfl, rfl, by decide +kernel, rfl, by decide +kernel, by decide +kernel⟩
abbrev s__are_halls : Stmt := (top 19)
abbrev n__are_halls : List Str := ["things", "thing"]
theorem sc__are_halls : FnScope ["things", "thing"] ["things"] (defScope s__are_halls) := ⟨rfl, rfl, rfl, by decide +kernel, rfl, by decide +kernel, by decide +kernel⟩
abbrev s__is_link : Stmt := (top 20)
abbrev n__is_link : List Str := ["thing", "halls", "one", "other", "cost", "part"]
theorem sc__is_link : FnScope ["thing", "halls", "one", "other", "cost", "part"] ["thing", "halls"] (defScope s__is_link) := ⟨rfl, rfl, rfl, by decide +kernel, rfl, by decide +kernel, by decide +kernel⟩
abbrev s__are_links : Stmt := (top 21)
abbrev n__are_links : List Str := ["things", "halls", "thing"]
theorem sc__are_links : FnScope ["things", "halls", "thing"] ["things", "halls"] (defScope s__are_links) := ⟨rfl, rfl, rfl, by decide +kernel, rfl, by decide +kernel, by decide +kernel⟩
abbrev s_Net___init__ : Stmt := (inClass (top 22) 0)
abbrev n_Net___init__ : List Str := ["self", "halls", "links"]
theorem sc_Net___init__ : FnScope ["self", "halls", "links"] ["self", "halls", "links"] (defScope s_Net___init__) := ⟨rfl, rfl, rfl, by decide +kernel, rfl, by decide +kernel, by decide +kernel⟩
abbrev s_Net_halls : Stmt := (inClass (top 22) 2)
abbrev n_Net_halls : List Str := ["self"]
theorem sc_Net_halls : FnScope ["self"] ["self"] (defScope s_Net_halls) := ⟨rfl, rfl, rfl, by decide +kernel, rfl, by decide +kernel, by decide +kernel⟩
abbrev s_Net_links : Stmt := (inClass (top 22) 4)
abbrev n_Net_links : List Str := ["self"]
theorem sc_Net_links : FnScope ["self"] ["self"] (defScope s_Net_links) := ⟨rfl, rfl, rfl, by decide +kernel, rfl, by decide +kernel, by decide +kernel⟩
abbrev s_Net_doors : Stmt := (inClass (top 22) 6)
abbrev n_Net_doors : List Str := ["self", "hall", "link", "one", "other", "_"]
theorem sc_Net_doors : FnScope ["self", "hall", "link", "one", "other", "_"] ["self", "hall"] (defScope s_Net_doors) := ⟨rfl, rfl, rfl, by decide +kernel, rfl, by decide +kernel, by decide +kernel⟩
abbrev s_Net__link : Stmt := (inClass (top 22) 10)
abbrev n_Net__link : List Str := ["self", "link"]
theorem sc_Net__link : FnScope ["self", "link"] ["self", "link"] (defScope s_Net__link) := ⟨rfl, rfl, rfl, by decide +kernel, rfl, by decide +kernel, by decide +kernel⟩
abbrev s_Net_beyond : Stmt := (inClass (top 22) 7)
abbrev n_Net_beyond : List Str := ["self", "link", "hall", "one", "other", "_"]
theorem sc_Net_beyond : FnScope ["self", "link", "hall", "one", "other", "_"] ["self", "link", "hall"] (defScope s_Net_beyond) := ⟨rfl, rfl, rfl, by decide +kernel, rfl, by decide +kernel, by decide +kernel⟩
abbrev s_Net_cost : Stmt := (inClass (top 22) 9)
abbrev n_Net_cost : List Str := ["self", "link"]
theorem sc_Net_cost : FnScope ["self", "link"] ["self", "link"] (defScope s_Net_cost) := ⟨rfl, rfl, rfl, by decide +kernel, rfl, by decide +kernel, by decide +kernel⟩
abbrev s_kept : Stmt := (top 3)
abbrev n_kept : List Str := ["thing", "deep", "part", "key"]
theorem sc_kept : FnScope ["thing", "deep", "part", "key"] ["thing", "deep"] (defScope s_kept) := ⟨rfl, rfl, rfl, by decide +kernel, rfl, by decide +kernel, by decide +kernel⟩
abbrev s_law : Stmt := (top 32)
abbrev n_law : List Str := ["_law_script", "_law_state_here", "_law_places_here", "_law_roads_here", "_law_net", "_law_turn", "_law_way", "_law_road", "_law_place", "_law_wanted"]
theorem sc_law : FnScope ["_law_script", "_law_state_here", "_law_places_here", "_law_roads_here", "_law_net", "_law_turn", "_law_way", "_law_road", "_law_place", "_law_wanted"] ["_law_script"] (defScope s_law) := ⟨rfl, rfl, rfl, by decide +kernel, rfl, by decide +kernel, by decide +kernel⟩
structure Tx (K : PySem.W.Frag) (mg : Str → Option Value) where
  c_Net : Addr
  g_Net : mg "Net" = some (.ref c_Net)
  cl_Net : Cls K c_Net
  c_RingError : Addr
  g_RingError : mg "RingError" = some (.ref c_RingError)
  c_NoLink : Addr
  g_NoLink : mg "NoLink" = some (.ref c_NoLink)
  c_NoHall : Addr
  g_NoHall : mg "NoHall" = some (.ref c_NoHall)
  c_NoLetter : Addr
  g_NoLetter : mg "NoLetter" = some (.ref c_NoLetter)
  c_Cut : Addr
  g_Cut : mg "Cut" = some (.ref c_Cut)
  c_Runs : Addr
  g_Runs : mg "Runs" = some (.ref c_Runs)
  c_Stands : Addr
  g_Stands : mg "Stands" = some (.ref c_Stands)
  c_Stopped : Addr
  g_Stopped : mg "Stopped" = some (.ref c_Stopped)
  a_l_state : Addr
  d_l_state : FuncData
  F_l_state : Fun K "_law_state" "_law_state" s_l_state a_l_state d_l_state
  b_l_state : Binds K d_l_state ["_law_script"] []
  g_l_state : mg "_law_state" = some (.ref a_l_state)
  a_l_draw : Addr
  d_l_draw : FuncData
  F_l_draw : Fun K "_law_draw" "_law_draw" s_l_draw a_l_draw d_l_draw
  b_l_draw : Binds K d_l_draw ["_law_state_here", "_law_many"] []
  g_l_draw : mg "_law_draw" = some (.ref a_l_draw)
  a_l_places : Addr
  d_l_places : FuncData
  F_l_places : Fun K "_law_places" "_law_places" s_l_places a_l_places d_l_places
  b_l_places : Binds K d_l_places ["_law_state_here"] []
  g_l_places : mg "_law_places" = some (.ref a_l_places)
  a_l_roads : Addr
  d_l_roads : FuncData
  F_l_roads : Fun K "_law_roads" "_law_roads" s_l_roads a_l_roads d_l_roads
  b_l_roads : Binds K d_l_roads ["_law_state_here", "_law_places_here"] []
  g_l_roads : mg "_law_roads" = some (.ref a_l_roads)
  a_l_thing : Addr
  d_l_thing : FuncData
  F_l_thing : Fun K "_law_thing" "_law_thing" s_l_thing a_l_thing d_l_thing
  b_l_thing : Binds K d_l_thing ["_law_state_here", "_law_some"] []
  g_l_thing : mg "_law_thing" = some (.ref a_l_thing)
  a_l_is_number : Addr
  d_l_is_number : FuncData
  F_l_is_number : Fun K "_law_is_number" "_law_is_number" s_l_is_number a_l_is_number d_l_is_number
  b_l_is_number : Binds K d_l_is_number ["_law_thing_here", "_law_some"] []
  g_l_is_number : mg "_law_is_number" = some (.ref a_l_is_number)
  a_l_called : Addr
  d_l_called : FuncData
  F_l_called : Fun K "_law_called" "_law_called" s_l_called a_l_called d_l_called
  b_l_called : Binds K d_l_called ["_law_net", "_law_way", "_law_road", "_law_place"] []
  g_l_called : mg "_law_called" = some (.ref a_l_called)
  a_l_tried : Addr
  d_l_tried : FuncData
  F_l_tried : Fun K "_law_tried" "_law_tried" s_l_tried a_l_tried d_l_tried
  b_l_tried : Binds K d_l_tried ["_law_net", "_law_way", "_law_road", "_law_place"] []
  g_l_tried : mg "_law_tried" = some (.ref a_l_tried)
  a_is_number : Addr
  d_is_number : FuncData
  F_is_number : Fun K "is_number" "is_number" s_is_number a_is_number d_is_number
  b_is_number : Binds K d_is_number ["thing"] []
  g_is_number : mg "is_number" = some (.ref a_is_number)
  a__are_halls : Addr
  d__are_halls : FuncData
  F__are_halls : Fun K "_are_halls" "_are_halls" s__are_halls a__are_halls d__are_halls
  b__are_halls : Binds K d__are_halls ["things"] []
  g__are_halls : mg "_are_halls" = some (.ref a__are_halls)
  a__is_link : Addr
  d__is_link : FuncData
  F__is_link : Fun K "_is_link" "_is_link" s__is_link a__is_link d__is_link
  b__is_link : Binds K d__is_link ["thing", "halls"] []
  g__is_link : mg "_is_link" = some (.ref a__is_link)
  a__are_links : Addr
  d__are_links : FuncData
  F__are_links : Fun K "_are_links" "_are_links" s__are_links a__are_links d__are_links
  b__are_links : Binds K d__are_links ["things", "halls"] []
  g__are_links : mg "_are_links" = some (.ref a__are_links)
  a_Net___init__ : Addr
  d_Net___init__ : FuncData
  F_Net___init__ : Fun K "__init__" "Net.__init__" s_Net___init__ a_Net___init__ d_Net___init__
  b_Net___init__ : Binds K d_Net___init__ ["self", "halls", "links"] []
  m_Net : Mk K c_Net a_Net___init__
  a_Net_halls : Addr
  d_Net_halls : FuncData
  F_Net_halls : Fun K "halls" "Net.halls" s_Net_halls a_Net_halls d_Net_halls
  b_Net_halls : Binds K d_Net_halls ["self"] []
  me_Net_halls : Meth K c_Net "halls" a_Net_halls
  a_Net_links : Addr
  d_Net_links : FuncData
  F_Net_links : Fun K "links" "Net.links" s_Net_links a_Net_links d_Net_links
  b_Net_links : Binds K d_Net_links ["self"] []
  me_Net_links : Meth K c_Net "links" a_Net_links
  a_Net_doors : Addr
  d_Net_doors : FuncData
  F_Net_doors : Fun K "doors" "Net.doors" s_Net_doors a_Net_doors d_Net_doors
  b_Net_doors : Binds K d_Net_doors ["self", "hall"] []
  me_Net_doors : Meth K c_Net "doors" a_Net_doors
  a_Net__link : Addr
  d_Net__link : FuncData
  F_Net__link : Fun K "_link" "Net._link" s_Net__link a_Net__link d_Net__link
  b_Net__link : Binds K d_Net__link ["self", "link"] []
  me_Net__link : Meth K c_Net "_link" a_Net__link
  a_Net_beyond : Addr
  d_Net_beyond : FuncData
  F_Net_beyond : Fun K "beyond" "Net.beyond" s_Net_beyond a_Net_beyond d_Net_beyond
  b_Net_beyond : Binds K d_Net_beyond ["self", "link", "hall"] []
  me_Net_beyond : Meth K c_Net "beyond" a_Net_beyond
  a_Net_cost : Addr
  d_Net_cost : FuncData
  F_Net_cost : Fun K "cost" "Net.cost" s_Net_cost a_Net_cost d_Net_cost
  b_Net_cost : Binds K d_Net_cost ["self", "link"] []
  me_Net_cost : Meth K c_Net "cost" a_Net_cost
  a_kept : Addr
  d_kept : FuncData
  F_kept : FunD K "kept" "kept" (defArgs s_kept) (defBody s_kept) (defScope s_kept) [V.int 100] [] a_kept d_kept
  b_kept : Binds K d_kept ["thing", "deep"] []
  ds_kept : List Value
  dv_kept : Vals [V.int 100] ds_kept
  b1_kept : Binds K d_kept ["thing", "deep"] ds_kept
  g_kept : mg "kept" = some (.ref a_kept)
  a_law : Addr
  d_law : FuncData
  F_law : Fun K "law" "law" s_law a_law d_law
  b_law : Binds K d_law ["_law_script"] []
  g_law : mg "law" = some (.ref a_law)
  n_Net__handed : NoAttr K c_Net "_handed"
  n_Net__rising : NoAttr K c_Net "_rising"
  n_Net__links : NoAttr K c_Net "_links"
  z_abs : mg "abs" = none
  z_len : mg "len" = none
  z_range : mg "range" = none
  z_list : mg "list" = none
  z_repr : mg "repr" = none
  z_sorted : mg "sorted" = none
  z_all : mg "all" = none
  z_isinstance : mg "isinstance" = none
  z_set : mg "set" = none
  z_tuple : mg "tuple" = none
  z_int : mg "int" = none
  z_bool : mg "bool" = none
  z_dict : mg "dict" = none
  z_ValueError : mg "ValueError" = none
  z_enumerate : mg "enumerate" = none
  t_MOST_HALLS : Tok
  v_MOST_HALLS : mg "MOST_HALLS" = some (.int (8) t_MOST_HALLS)
  t_MOST_LINKS : Tok
  v_MOST_LINKS : mg "MOST_LINKS" = some (.int (12) t_MOST_LINKS)
  t_LAST_HALL : Tok
  v_LAST_HALL : mg "LAST_HALL" = some (.int (999) t_LAST_HALL)
  t_MOST_COST : Tok
  v_MOST_COST : mg "MOST_COST" = some (.int (30) t_MOST_COST)
end K03

set_option maxHeartbeats 2000000
namespace K03
open PySem PySem.Spec PyProof.Rows L2 Evl MyG
/-! ### the drawing state: a list [cells, place, last] at s, the cells at c -/
structure Sta (s c : Addr) (H : Hp) : Prop where
  ne : s ≠ c
  ex : ∃ (cells : List Int) (i j : Int), H s = some (.lst [.ref c, .int i, .int j]) ∧ H c = some (.lst (cells.map V.int)) ∧ cells ≠ [] ∧ (∀ x ∈ cells, 0 ≤ x) ∧ 0 ≤ i ∧ 0 ≤ j ∧ j < 2147483647
def Off (s c : Addr) (H H' : Hp) : Prop := ∀ a, a ≠ s → a ≠ c → H' a = H a
def sp_state (K : PySem.W.Frag) : Sp := fun vs H Q _ => ∃ (a : Addr) (ns : List Int), vs = [.ref a] ∧ SqL K H a (ns.map V.int) ∧ ns.length ≤ 63 ∧ ∀ s c H', Ex H H' → H s = none → H c = none → Sta s c H' → Q (.ref s) H'
def sp_draw : Sp := fun vs H Q _ => ∃ (s c : Addr) (m : Int), vs = [.ref s, .int m] ∧ Sta s c H ∧ 0 < m ∧ m < 1073741824 ∧ ∀ r H', 0 ≤ r → r < m → Sta s c H' → Off s c H H' → Q (.int r) H'
theorem fmod_bd {a m : Int} (h : 0 < m) : 0 ≤ a.fmod m ∧ a.fmod m < m := ⟨Int.fmod_nonneg_of_pos a h, Int.fmod_lt_of_pos a h⟩
theorem ints_at {ns : List Int} {k : Int} (h0 : 0 ≤ k) (h1 : k < (ns.length : Int)) : ∃ x, ns[k.toNat]? = some x ∧ atI (ns.map V.int) k = some (.int x) ∧ x ∈ ns := by
  have hk : k.toNat < ns.length := by omega
  refine ⟨ns[k.toNat], List.getElem?_eq_getElem hk, ?_, List.getElem_mem hk⟩
  refine at_of (j := k.toNat) (by omega) ?_
  rw [List.getElem?_map, List.getElem?_eq_getElem hk]
  rfl
theorem map_set_int (ns : List Int) (j : Nat) (y : Int) : (ns.map V.int).set j (.int y) = (ns.set j y).map V.int := by
  rw [List.map_set]
theorem mem_set {ns : List Int} {j : Nat} {y : Int} (h : ∀ x ∈ ns, 0 ≤ x) (hy : 0 ≤ y) : ∀ x ∈ ns.set j y, 0 ≤ x := fun x hx => by
  rcases List.mem_or_eq_of_mem_set hx with e | e
  · exact h x e
  · rw [e]; exact hy
section
variable {P : Program} {w : World} {K : PySem.W.Frag} {mg : Str → Option Value} {base : Heap}
theorem ok_draw (T : Tx K mg) : FnOk P w K mg base CX0 1 T.a_l_draw T.d_l_draw ["_law_state_here", "_law_many"] sp_draw := by
  refine T.F_l_draw.ok sc_l_draw (fun vs H Q E h => ?_) (fun cdv A outer s H vs Q E hr h => ?_)
  · obtain ⟨_, _, _, rfl, _⟩ := h
    rfl
  · obtain ⟨s, c, m, rfl, hst, hm0, hm1, q⟩ := h
    refine ⟨_, (pss_cons (ps_set (i := 2) sc_l_draw.nd rfl (Or.inl rfl) (pe_op op_modN (pe_ix (ix_listK (K := K) rfl) (pv 0) pe_int (fun _ _ => rfl)) (pe_callB (lenK (K := K) rfl) (by rfl) T.z_len (by decide +kernel) (pa_cons (pe_ix (ix_listK (K := K) rfl) (pv 0) pe_int (fun _ _ => rfl)) pa_nil))))
  (pss_cons (ps_set (i := 3) sc_l_draw.nd rfl (Or.inl rfl) (pe_ix (ix_listK (K := K) rfl) (pe_ix (ix_listK (K := K) rfl) (pv 0) pe_int (fun _ _ => rfl)) (pv 2) (fun _ _ => rfl)))
  (pss_cons (ps_if (pt_cmpR op_ge (pv 3) (pe_op op_pow pe_int pe_int) (nomark _)) (pss_cons (ps_asg (pe_op op_fdivN (pv 3) (pv 1)) (pg_sub (pe_ix (ix_listK (K := K) rfl) (pv 0) pe_int (fun _ _ => rfl)) (pv 2) set_list))
  (pss_one (ps_ret (pe_op op_modN (pv 3) (pv 1))))) pss_nil)
  (pss_cons (ps_asg (pe_op op_add (pe_ix (ix_listK (K := K) rfl) (pv 0) pe_int (fun _ _ => rfl)) pe_int) (pg_sub (pv 0) pe_int set_list))
  (pss_cons (ps_asg (pe_op op_modN (pe_op op_add (pe_op op_add (pe_op op_mul (pe_ix (ix_listK (K := K) rfl) (pv 0) pe_int (fun _ _ => rfl)) pe_int) (pv 3)) pe_int) pe_int) (pg_sub (pv 0) pe_int set_list))
  (pss_one (ps_ret (pe_op op_modN (pe_op op_fdivN (pe_op op_modN (pe_op op_mul (pe_ix (ix_listK (K := K) rfl) (pv 0) pe_int (fun _ _ => rfl)) (pe_ix (ix_listK (K := K) rfl) (pv 0) pe_int (fun _ _ => rfl))) pe_int) pe_int) (pv 1))))))))), ?_⟩
    obtain ⟨nsc, cells, i, j, hs, hc, hne, hpos, hi, hj0, hj1⟩ := hst
    have hlen : 0 < (cells.length : Int) := by
      have := List.length_pos_iff.mpr hne
      omega
    -- at = state[1] % len(state[0])
    refine ⟨_, rfl, s, _, 1, _, rfl, rfl, SqL.of hs, atI_nat (j := 1) rfl, _, rfl, s, _, 0, _, rfl, rfl, SqL.of hs, atI_nat (j := 0) rfl, c, _, rfl, .inl (SqL.of hc), _, _, rfl, rfl, ?_, ?_⟩
    · rw [List.length_map]; omega
    rw [List.length_map]
    have hat := fmod_bd (a := i) hlen
    generalize hdef : i.fmod (cells.length : Int) = at_ at hat
    obtain ⟨x, hx, hxa, hxm⟩ := ints_at hat.1 hat.2
    have hx0 := hpos x hxm
    -- cell = state[0][at]
    refine ⟨_, rfl, s, _, 0, _, rfl, rfl, SqL.of hs, atI_nat (j := 0) rfl, _, rfl, c, _, at_, _, rfl, congrArg V.int hdef, SqL.of hc, hxa, ?_⟩
    -- if cell >= 10 ** 18
    refine ⟨_, rfl, 10, 18, rfl, rfl, ⟨by decide, by decide, by decide⟩, x, _, rfl, rfl, _, rfl, ite2 (fun _ => ?_) (fun _ => ?_)⟩
    · -- state[0][at] = cell // many
      refine ⟨_, rfl, _, rfl, x, m, rfl, rfl, ⟨by omega, by omega⟩, _, rfl, s, _, 0, _, rfl, rfl, SqL.of hs, atI_nat (j := 0) rfl, _, rfl, c, _, at_, at_.toNat, rfl, congrArg V.int hdef, hc, ?_, ?_⟩
      · have e : at_ = (at_.toNat : Int) := by omega
        rw [e]
        exact Evl.ixN_nat (by rw [List.length_map]; omega)
      refine ⟨_, rfl, _, rfl, x, m, rfl, rfl, by omega, ?_⟩
      have hb := fmod_bd (a := x) hm0
      refine q _ _ hb.1 hb.2 ⟨nsc, cells.set at_.toNat (x.fdiv m), i, j, ?_, ?_, ?_, ?_, hi, hj0, hj1⟩ (fun a ha hac => upd_ne hac)
      · rw [upd_ne nsc]; exact hs
      · rw [upd_same, map_set_int]
      · exact fun z => hne (by simpa using z)
      · refine mem_set hpos ?_
        rw [Int.fdiv_eq_ediv_of_nonneg _ (by omega)]
        exact Int.ediv_nonneg hx0 (by omega)
    · -- state[1] = state[1] + 1
      refine ⟨_, rfl, s, _, 1, _, rfl, rfl, SqL.of hs, atI_nat (j := 1) rfl, _, _, rfl, rfl, _, rfl, s, _, 1, 1, rfl, rfl, hs, Evl.ixN_nat (j := 1) (by show 1 < 3; decide), ?_⟩
      have hs1 : (upd H s (.lst ([V.ref c, .int i, .int j].set 1 (.int (i + 1))))) s = some (.lst [.ref c, .int (i + 1), .int j]) := upd_same
      -- state[2] = ..
      refine ⟨_, rfl, s, _, 2, _, rfl, rfl, SqL.of hs1, atI_nat (j := 2) rfl, _, _, rfl, rfl, .inl ⟨by omega, by omega⟩, _, rfl, _, _, rfl, rfl, _, _, rfl, rfl, _, _, rfl, rfl, (by show (2147483647 : Int) ≠ 0; decide), _, rfl, s, _, 2, 2, rfl, rfl, hs1, Evl.ixN_nat (j := 2) (by show 2 < 3; decide), ?_⟩
      have hb := fmod_bd (a := j * 48271 + x + 12345) (m := 2147483647) (by decide)
      generalize hdj : (j * 48271 + x + 12345).fmod 2147483647 = j' at hb
      have hs2 : (upd (upd H s (.lst ([V.ref c, .int i, .int j].set 1 (.int (i + 1))))) s (.lst ([V.ref c, .int (i + 1), .int j].set 2 (.int ((j * 48271 + x + 12345).fmod 2147483647))))) s = some (.lst [.ref c, .int (i + 1), .int j']) := by
        rw [upd_same, hdj]
        rfl
      -- return ..
      refine ⟨_, rfl, s, _, 2, _, rfl, rfl, SqL.of hs2, atI_nat (j := 2) rfl, _, rfl, s, _, 2, _, rfl, rfl, SqL.of hs2, atI_nat (j := 2) rfl, _, _, rfl, rfl, .inl ⟨by omega, by omega⟩, _, _, rfl, rfl, (by show (2147483629 : Int) ≠ 0; decide), _, _, rfl, rfl, ⟨by show (16 : Int) ≠ 0; decide, by show (16 : Int).natAbs < 1073741824; decide⟩, _, rfl, _, _, rfl, rfl, by omega, ?_⟩
      have hb2 := fmod_bd (a := ((j' * j').fmod 2147483629).fdiv 16) hm0
      refine q _ _ hb2.1 hb2.2 ⟨nsc, cells, i + 1, j', hs2, ?_, hne, hpos, by omega, hb.1, hb.2⟩ (fun a ha hac => ?_)
      · rw [upd_ne nsc.symm, upd_ne nsc.symm]; exact hc
      · rw [upd_ne ha, upd_ne ha]
end
end K03

set_option maxHeartbeats 2000000
namespace K03
open PySem PySem.Spec PyProof.Rows L2 Evl MyG
/-! ### what is known (B) beside the state -/
structure Wd (s c : Addr) (B H : Hp) : Prop where
  ex : Ex B H
  ns : B s = none
  nc : B c = none
  st : Sta s c H
theorem Sta.ext {s c : Addr} {H H' : Hp} (h : Sta s c H) (e : Ex H H') : Sta s c H' :=
  ⟨h.ne, let ⟨cells, i, j, h1, h2, r⟩ := h.ex; ⟨cells, i, j, e _ _ h1, e _ _ h2, r⟩⟩
theorem Sta.s_some {s c : Addr} {H : Hp} (h : Sta s c H) : ∃ o, H s = some o := let ⟨_, _, _, h1, _⟩ := h.ex; ⟨_, h1⟩
theorem Sta.c_some {s c : Addr} {H : Hp} (h : Sta s c H) : ∃ o, H c = some o := let ⟨_, _, _, _, h2, _⟩ := h.ex; ⟨_, h2⟩
theorem Sta.ne_s {s c p : Addr} {H : Hp} (h : Sta s c H) (hp : H p = none) : p ≠ s := fun e => by
  obtain ⟨o, z⟩ := h.s_some
  rw [e, z] at hp
  cases hp
theorem Sta.ne_c {s c p : Addr} {H : Hp} (h : Sta s c H) (hp : H p = none) : p ≠ c := fun e => by
  obtain ⟨o, z⟩ := h.c_some
  rw [e, z] at hp
  cases hp
theorem Sta.upd {s c p : Addr} {H : Hp} {o : HO} (h : Sta s c H) (hs : p ≠ s) (hc : p ≠ c) : Sta s c (upd H p o) :=
  ⟨h.ne, let ⟨cells, i, j, h1, h2, r⟩ := h.ex; ⟨cells, i, j, by rw [upd_ne hs.symm]; exact h1, by rw [upd_ne hc.symm]; exact h2, r⟩⟩
section
variable {s c p : Addr} {B H H' : Hp} {o : HO}
theorem Wd.off (h : Wd s c B H) (st : Sta s c H') (f : Off s c H H') : Wd s c B H' := ⟨fun a u e => by
  rw [f a (fun z => by rw [z, h.ns] at e; cases e) (fun z => by rw [z, h.nc] at e; cases e)]
  exact h.ex a u e, h.ns, h.nc, st⟩
theorem Wd.ext (h : Wd s c B H) (e : Ex H H') : Wd s c B H' := ⟨h.ex.trans e, h.ns, h.nc, h.st.ext e⟩
theorem Wd.mut (h : Wd s c B H) (hp : B p = none) (hs : p ≠ s) (hc : p ≠ c) : Wd s c B (upd H p o) := ⟨h.ex.mut hp, h.ns, h.nc, h.st.upd hs hc⟩
theorem Wd.know (h : Wd s c B H) (hp : H p = some o) (hs : p ≠ s) (hc : p ≠ c) : Wd s c (upd B p o) H := ⟨fun a u e => by
  by_cases z : a = p
  · rw [z, upd_same] at e
    rw [z, ← e]
    exact hp
  · rw [upd_ne z] at e
    exact h.ex a u e, by rw [upd_ne hs.symm]; exact h.ns, by rw [upd_ne hc.symm]; exact h.nc, h.st⟩
theorem Wd.none_of (h : Wd s c B H) (hp : H p = none) : B p = none := fresh_back h.ex hp
theorem ex_know (hp : B p = none) : Ex B (upd B p o) := Ex.new hp
end
/-! ### comprehensions that map -/
theorem given_all (ys : List V) : given ys.length (fun _ => true) (fun i => ys.getD i .non) = ys := by
  unfold given
  rw [List.filter_eq_self.mpr (fun _ _ => rfl)]
  refine List.ext_getElem (by simp) (fun i h1 h2 => ?_)
  rw [List.getElem_map, List.getElem_range, List.getD_eq_getElem?_getD, List.getElem?_eq_getElem h2]
  rfl
theorem et_yes {σ : L2.St} {H : Hp} : EvT tYes σ H true := fun H1 _ _ q => q H1 (Ex.refl H1)
theorem el_map {K : PySem.W.Frag} {σ : L2.St} {H : Hp} {te : TE} {a : Addr} {xs ys : List V} {tl : TE} {j : Nat} {vs : List Nat} (h : Ev tl σ H (.ref a)) (hx : SqL K H a xs) (hz : xs.length ≤ 40000) (hl : ys.length = xs.length)
    (hw : ∀ x, wipe ((wipe σ vs).set j (some x)) vs = wipe σ vs) (he : ∀ (i : Nat) (x y : V) H1, Ex H H1 → xs[i]? = some x → ys[i]? = some y → Ev te ((wipe σ vs).set j (some x)) H1 y) : EvL (tLc (iList K tl) (gName j) tYes te vs) σ H ys := by
  have k := el_lcL (K := K) (t := tYes) (te := te) (fun _ => true) (fun i => ys.getD i .non) h hx hz hw (fun i x H1 e hi => et_yes) (fun i x H1 e hi _ => by
    have h1 := (List.getElem?_eq_some_iff.mp hi).1
    have h2 : i < ys.length := by omega
    rw [show ys.getD i .non = ys[i] by rw [List.getD_eq_getElem?_getD, List.getElem?_eq_getElem h2]; rfl]
    exact he i x _ H1 e hi (List.getElem?_eq_getElem h2))
  rw [← hl, given_all] at k
  exact k
theorem go_L {te : TE} {σ : L2.St} {H : Hp} {xs : List V} {Q : VK} (h : EvL te σ H xs) (k : ∀ p H1, H p = none → Ex H H1 → H1 p = some (.lst xs) → Q (.ref p) H1) : te σ H Q := h H (Ex.refl H) Q k
theorem go_V {te : TE} {σ : L2.St} {H : Hp} {v : V} {Q : VK} (h : Ev te σ H v) (k : ∀ H1, Ex H H1 → Q v H1) : te σ H Q := h H (Ex.refl H) Q k
/-! ### the first state -/
section
variable {P : Program} {w : World} {K : PySem.W.Frag} {mg : Str → Option Value} {base : Heap}
theorem ok_state (T : Tx K mg) : FnOk P w K mg base CX0 1 T.a_l_state T.d_l_state ["_law_script"] (sp_state K) := by
  refine T.F_l_state.ok sc_l_state (fun vs H Q E h => ?_) (fun cdv A outer s H vs Q E hr h => ?_)
  · obtain ⟨_, _, rfl, _⟩ := h
    rfl
  · obtain ⟨a, ns, rfl, hS, hlen, q⟩ := h
    refine ⟨_, (pss_cons (ps_setLc (i := 1) (own := [("_law_cell", 2)]) (g := (gName 2)) (tt := tYes) rfl sc_l_state.nd rfl rfl (sw_true rfl rfl rfl (by decide +kernel)) (iListK (K := K) rfl (pv 0)) (blkOk_by (N := n_l_state) (sc := defScope s_l_state) (by decide +kernel)) (fun _ _ _ _ _ => (pg_name (i := 2) sc_l_state.nd rfl (Or.inl rfl))) (fun _ _ _ _ _ => pts_nil) (fun _ _ _ _ _ => (pe_callB call_abs (by rfl) T.z_abs (by decide +kernel) (pa_cons (pv 2) pa_nil))))
  (pss_cons (ps_if (pt_cmpR (op_eqK (K := K) rfl hr.units) (pv 1) (pe_lst pa_nil) (nomark _)) (pss_one (ps_set (i := 1) sc_l_state.nd rfl (Or.inl rfl) (pe_lst (pa_cons pe_int pa_nil)))) pss_nil)
  (pss_one (ps_ret (pe_lst (pa_cons (pv 1) (pa_cons pe_int (pa_cons pe_int pa_nil)))))))), ?_⟩
    -- the cells
    refine q_asgL (xs := (ns.map fun i => if i < 0 then -i else i).map V.int) (el_map (xs := ns.map V.int) (a := a) (ev_var rfl) hS (by rw [List.length_map]; omega) (by simp) (fun x => rfl) (fun i x y H1 e hx hy => ?_)) (fun c H1 hc e1 h1 => ?_)
    · rw [List.getElem?_map] at hx hy
      rw [List.getElem?_map] at hy
      cases hi : ns[i]? with
      | none =>
        rw [hi] at hx
        cases hx
      | some z =>
        rw [hi] at hx hy
        obtain rfl := Option.some.inj hx
        obtain rfl := Option.some.inj hy
        exact fun H2 e2 Q q => ⟨_, rfl, z, rfl, q _ (Ex.refl _)⟩
    generalize hg : ns.map (fun i => if i < 0 then -i else i) = cells at h1
    have pos : ∀ x ∈ cells, 0 ≤ x := fun x hx => by
      rw [← hg] at hx
      obtain ⟨y, _, rfl⟩ := List.mem_map.mp hx
      split <;> omega
    -- if cells == []
    refine ⟨_, rfl, by show 0 ≤ sizeLine; exact Nat.zero_le _, fun p hp => ?_⟩
    have cl : PyData.canLay0 (.list (cells.map PyData.int)) = true := by
      simp only [PyData.canLay0]
      clear hg pos h1
      induction cells with
      | nil => rfl
      | cons x r ih => simp only [List.map_cons, PyData.canLayAll0, PyData.canLay0, ih, Bool.and_self]
    have dpt : PyData.depth (.list (cells.map PyData.int)) ≤ 64 := by
      simp only [PyData.depth]
      have : PyData.depthAll (cells.map PyData.int) = 0 := by
        clear hg pos h1 cl
        induction cells with
        | nil => rfl
        | cons x r ih => simp only [List.map_cons, PyData.depthAll, PyData.depth, ih]; rfl
      omega
    refine ⟨.list (cells.map PyData.int), .list [], .lst (SqL.of (Ex.new hp _ _ h1)) (dp_ints _), .lst (SqL.of upd_same) .nil, ?_, rfl, _, rfl, ite2 (fun he => ?_) (fun hne => ?_)⟩
    · unfold SeqAt.shaped
      rw [cl, decide_eq_true dpt]
      rfl
    · -- cells = [1]
      refine ⟨by show 1 ≤ sizeLine; decide, fun c2 hc2 => ?_⟩
      refine ⟨_, rfl, by show 3 ≤ sizeLine; decide, fun s hs => ?_⟩
      have n2 : c2 ≠ s := fun z => by rw [← z, upd_same] at hs; cases hs
      have e2 : Ex H1 (upd (upd (upd H1 p (.lst [])) c2 (.lst [.int 1])) s (.lst [.ref c2, .int 0, .int 1])) := ((Ex.new hp).trans (Ex.new hc2)).trans (Ex.new hs)
      refine q s c2 _ (e1.trans e2) (fresh_back (e1.trans ((Ex.new hp).trans (Ex.new hc2))) hs) (fresh_back (e1.trans (Ex.new hp)) hc2) ⟨n2.symm, [1], 0, 1, upd_same, ?_, by decide, by decide, by decide, by decide, by decide⟩
      rw [upd_ne n2, upd_same]
      rfl
    · refine ⟨_, rfl, by show 3 ≤ sizeLine; decide, fun s hs => ?_⟩
      have h2 : (upd H1 p (.lst [])) c = some (.lst (cells.map V.int)) := Ex.new hp _ _ h1
      have n2 : c ≠ s := ne_of_none h2 hs
      refine q s c _ ((e1.trans (Ex.new hp)).trans (Ex.new hs)) (fresh_back (e1.trans (Ex.new hp)) hs) hc ⟨n2.symm, cells, 0, 1, upd_same, ?_, ?_, pos, by decide, by decide, by decide⟩
      · rw [upd_ne n2]; exact h2
      · intro z
        subst z
        exact hne rfl
end
end K03

set_option maxHeartbeats 2000000
namespace K03
open PySem PySem.Spec PyProof.Rows L2 Evl MyG
/-! ### places drawn -/
structure Places (ps : List Int) : Prop where
  nd : ps.Nodup
  l0 : 1 ≤ ps.length
  l1 : ps.length ≤ 8
  bd : ∀ x ∈ ps, 0 ≤ x ∧ x ≤ 999
def sp_places : Sp := fun vs H Q _ => ∃ (s c : Addr) (B : Hp), vs = [.ref s] ∧ Wd s c B H ∧ ∀ p ps H', Places ps → H p = none → Wd s c (upd B p (.lst (ps.map V.int))) H' → Q (.ref p) H'
theorem inV_ints (z : Int) : ∀ ns : List Int, inV (.int z) (ns.map V.int) = decide (z ∈ ns)
  | [] => by simp [inV]
  | n :: ns => by
    have ih := inV_ints z ns
    unfold inV at ih ⊢
    rw [List.map_cons, List.any_cons, ih]
    have e : eqV (.int n) (.int z) = decide (n = z) := by first | rfl | simp [eqV]
    rw [e]
    by_cases h : n = z
    · subst h; simp
    · have h' : ¬ z = n := fun q => h q.symm
      simp [h, h']
theorem flat_ints (ns : List Int) : (ns.map V.int).all flatV = true := by
  rw [List.all_eq_true]
  intro x hx
  obtain ⟨n, _, rfl⟩ := List.mem_map.mp hx
  rfl
theorem len8 {n : Nat} (h : n ≤ 1000) : n < sizeLine := small1000 h
theorem nodup_snoc {xs : List Int} {z : Int} (h : xs.Nodup) (hz : ¬ z ∈ xs) : (xs ++ [z]).Nodup := by
  rw [List.nodup_append]
  refine ⟨h, by simp, fun a ha b hb => ?_⟩
  obtain rfl := List.mem_singleton.mp hb
  exact fun e => hz (e ▸ ha)
section
variable {P : Program} {w : World} {K : PySem.W.Frag} {mg : Str → Option Value} {base : Heap}
theorem ok_places (T : Tx K mg) : FnOk P w K mg base CX0 2 T.a_l_places T.d_l_places ["_law_state_here"] sp_places := by
  have G_l_draw := ok_draw (P := P) (w := w) (base := base) T
  refine T.F_l_places.ok sc_l_places (fun vs H Q E h => ?_) (fun cdv A outer s H vs Q E hr h => ?_)
  · obtain ⟨_, _, _, rfl, _⟩ := h
    rfl
  · obtain ⟨s, c, B, rfl, hW, q⟩ := h
    refine ⟨_, (pss_cons (ps_set (i := 1) sc_l_places.nd rfl (Or.inl rfl) (pe_lst pa_nil))
  (pss_cons (ps_for PassesOwn.never rfl (pi_range1 rfl T.z_range (pa_cons (pe_op op_add pe_int (pe_call G_l_draw (hr.mono (by decide)) (by rfl) T.g_l_draw T.F_l_draw.kp T.b_l_draw .nil pass0 (pa_cons (pv 0) (pa_cons pe_int pa_nil)))) pa_nil)) (pg_name (i := 2) sc_l_places.nd rfl (Or.inl rfl))
   (pss_cons (ps_set (i := 3) sc_l_places.nd rfl (Or.inl rfl) (pe_call G_l_draw (hr.mono (by decide)) (by rfl) T.g_l_draw T.F_l_draw.kp T.b_l_draw .nil pass0 (pa_cons (pv 0) (pa_cons pe_int pa_nil))))
  (pss_cons (ps_set (i := 4) sc_l_places.nd rfl (Or.inl rfl) (pe_ix (ix_listK (K := K) rfl) (pe_lst (pa_cons (pe_call G_l_draw (hr.mono (by decide)) (by rfl) T.g_l_draw T.F_l_draw.kp T.b_l_draw .nil pass0 (pa_cons (pv 0) (pa_cons pe_int pa_nil))) (pa_cons (pe_call G_l_draw (hr.mono (by decide)) (by rfl) T.g_l_draw T.F_l_draw.kp T.b_l_draw .nil pass0 (pa_cons (pv 0) (pa_cons pe_int pa_nil))) (pa_cons (pe_op op_sub pe_int (pe_call G_l_draw (hr.mono (by decide)) (by rfl) T.g_l_draw T.F_l_draw.kp T.b_l_draw .nil pass0 (pa_cons (pv 0) (pa_cons pe_int pa_nil)))) (pa_cons (pe_call G_l_draw (hr.mono (by decide)) (by rfl) T.g_l_draw T.F_l_draw.kp T.b_l_draw .nil pass0 (pa_cons (pv 0) (pa_cons pe_int pa_nil))) pa_nil))))) (pv 3) (fun _ _ => rfl)))
  (pss_one (ps_if (pt_cmpR (op_niK (K := K) rfl) (pv 4) (pv 1) (by rfl)) (pss_one (ps_expr (pe_bm PySem.F.plainAttrs_list PySem.F.slot_list_append PySem.F.type_list_append mt_append (pv 1) (pa_cons (pv 4) pa_nil)))) pss_nil)))))
  (pss_one (ps_ret (pv 1))))), ?_⟩
    refine ⟨Nat.zero_le _, fun f hf => ?_⟩
    have hfs := hW.st.ne_s hf
    have hfc := hW.st.ne_c hf
    have hfB := hW.none_of hf
    have hW1 := hW.ext (Ex.new (o := .lst []) hf)
    refine ⟨_, rfl, s, c, 8, rfl, hW1.st, by decide, by decide, fun r H1 r0 r1 st1 off1 => ?_⟩
    have hW2 := hW1.off st1 off1
    refine ⟨1, r, rfl, rfl, 1 + r, rfl, by omega, by omega, for_range (lo := 0) (n := (1 + r).toNat) (fun i σ H' => ∃ (xs : List Int) (y2 y3 y4 : Option V), σ = [some (.ref s), some (.ref f), y2, y3, y4] ∧ Wd s c B H' ∧
      H' f = some (.lst (xs.map V.int)) ∧ xs.Nodup ∧ xs.length ≤ i ∧ (0 < i → 1 ≤ xs.length) ∧ ∀ x ∈ xs, 0 ≤ x ∧ x ≤ 999) ⟨[], _, _, _, rfl, hW2, (off1 f hfs hfc).trans upd_same, List.nodup_nil, Nat.le_refl _, fun z => absurd z (Nat.lt_irrefl _), fun x hx => nomatch hx⟩ ?_ ?_⟩
    · rintro i σ H2 hi ⟨xs, y2, y3, y4, rfl, W2, f2, nd, l0, l1, bd⟩
      -- way
      refine ⟨_, rfl, s, c, 4, rfl, W2.st, by decide, by decide, fun way H3 w0 w1 st3 off3 => ?_⟩
      have W3 := W2.off st3 off3
      have f3 := (off3 f hfs hfc).trans f2
      -- one
      refine ⟨_, rfl, s, c, 12, rfl, W3.st, by decide, by decide, fun a1 H4 a10 a11 st4 off4 => ?_⟩
      have W4 := W3.off st4 off4
      have f4 := (off4 f hfs hfc).trans f3
      refine ⟨_, rfl, s, c, 12, rfl, W4.st, by decide, by decide, fun a2 H5 a20 a21 st5 off5 => ?_⟩
      have W5 := W4.off st5 off5
      have f5 := (off5 f hfs hfc).trans f4
      refine ⟨_, rfl, s, c, 3, rfl, W5.st, by decide, by decide, fun a3 H6 a30 a31 st6 off6 => ?_⟩
      have W6 := W5.off st6 off6
      have f6 := (off6 f hfs hfc).trans f5
      refine ⟨999, a3, rfl, rfl, _, rfl, s, c, 1000, rfl, W6.st, by decide, by decide, fun a4 H7 a40 a41 st7 off7 => ?_⟩
      have W7 := W6.off st7 off7
      have f7 := (off7 f hfs hfc).trans f6
      refine ⟨by show 4 ≤ sizeLine; decide, fun p hp => ?_⟩
      have f8 := Ex.new (o := .lst [V.int a1, .int a2, .int (999 - a3), .int a4]) hp _ _ f7
      have W8 := W7.ext (Ex.new (o := .lst [V.int a1, .int a2, .int (999 - a3), .int a4]) hp)
      obtain ⟨z, hz, z0, z1⟩ : ∃ z, atI [V.int a1, .int a2, .int (999 - a3), .int a4] way = some (.int z) ∧ 0 ≤ z ∧ z ≤ 999 := by
        have : way = 0 ∨ way = 1 ∨ way = 2 ∨ way = 3 := by omega
        rcases this with rfl | rfl | rfl | rfl
        · exact ⟨a1, rfl, by omega, by omega⟩
        · exact ⟨a2, rfl, by omega, by omega⟩
        · exact ⟨999 - a3, rfl, by omega, by omega⟩
        · exact ⟨a4, rfl, by omega, by omega⟩
      refine ⟨_, rfl, p, _, way, _, rfl, rfl, SqL.of upd_same, hz, ?_⟩
      -- if one not in found
      refine ⟨_, rfl, _, rfl, f, _, rfl, .inl (SqL.of f8), rfl, flat_ints _, _, rfl, ?_⟩
      rw [inV_ints]
      by_cases hin : z ∈ xs
      · rw [decide_eq_true hin]
        refine iteF ⟨xs, _, _, _, rfl, W8, f8, nd, by omega, fun _ => ?_, bd⟩
        exact List.length_pos_of_mem hin
      · rw [decide_eq_false hin]
        refine iteT ?_
        refine ⟨_, rfl, .inl ⟨rfl, _, SqL.of f8⟩, _, rfl, f, _, _, rfl, rfl, f8, len8 (by rw [List.length_map]; omega), ?_⟩
        refine ⟨xs ++ [z], _, _, _, rfl, W8.mut hfB hfs hfc, ?_, nodup_snoc nd hin, by rw [List.length_append, List.length_singleton]; omega, fun _ => by rw [List.length_append, List.length_singleton]; omega, fun x hx => ?_⟩
        · rw [upd_same, List.map_append]
          rfl
        · rcases List.mem_append.mp hx with hx | hx
          · exact bd x hx
          · obtain rfl := List.mem_singleton.mp hx
            exact ⟨z0, z1⟩
    · rintro σ H2 ⟨xs, y2, y3, y4, rfl, W2, f2, nd, l0, l1, bd⟩
      refine ⟨_, rfl, ?_⟩
      exact q f xs H2 ⟨nd, l1 (by omega), by omega, bd⟩ hf (W2.know f2 hfs hfc)
end
end K03

set_option maxHeartbeats 2000000
namespace K03
open PySem PySem.Spec PyProof.Rows L2 Evl MyG
/-! ### roads drawn -/
abbrev Row := Int × Int × Int
def rowV (r : Row) : List V := [.int r.1, .int r.2.1, .int r.2.2]
def RowsAt (B : Hp) : List V → List Row → Prop := Paired fun (v : V) (r : Row) => ∃ a, v = .ref a ∧ B a = some (.tup (rowV r))
structure RoadOk (ps : List Int) (r : Row) : Prop where
  m1 : r.1 ∈ ps
  m2 : r.2.1 ∈ ps
  ne : r.1 ≠ r.2.1
  c0 : 1 ≤ r.2.2
  c1 : r.2.2 ≤ 30
structure Roads (ps : List Int) (rs : List Row) : Prop where
  len : rs.length ≤ 12
  ok : ∀ r ∈ rs, RoadOk ps r
theorem RowsAt.mono {B B' : Hp} (e : Ex B B') {vs : List V} {rs : List Row} (h : RowsAt B vs rs) : RowsAt B' vs rs := Paired.mapP h fun _ _ ⟨a, h1, h2⟩ => ⟨a, h1, e _ _ h2⟩
theorem RowsAt.len {B : Hp} {vs : List V} {rs : List Row} (h : RowsAt B vs rs) : vs.length = rs.length := Paired.length h
theorem RowsAt.snoc {B : Hp} {a : Addr} {r : Row} (ha : B a = some (.tup (rowV r))) : ∀ {vs : List V} {rs : List Row}, RowsAt B vs rs → RowsAt B (vs ++ [.ref a]) (rs ++ [r])
  | _, _, .nil => .cons ⟨a, rfl, ha⟩ .nil
  | _, _, .cons h t => .cons h (RowsAt.snoc ha t)
def sp_roads : Sp := fun vs H Q _ => ∃ (s c a : Addr) (B : Hp) (ps : List Int), vs = [.ref s, .ref a] ∧ Wd s c B H ∧ B a = some (.lst (ps.map V.int)) ∧ Places ps ∧
  ∀ p ts rs B' H', Ex B B' → Roads ps rs → RowsAt B' ts rs → H p = none → B' p = some (.lst ts) → Wd s c B' H' → Q (.ref p) H'
theorem seq_nat {n : Nat} {k : Int} (h0 : 0 ≤ k) (h1 : k < (n : Int)) : seqIndex? k n = some k.toNat := by
  have e : k = (k.toNat : Int) := by omega
  rw [e]
  exact (ixN_seq (Evl.ixN_nat (show k.toNat < n by omega))).1
theorem erase_ints : ∀ (ns : List Int) (k : Nat), (ns.map V.int).eraseIdx k = (ns.eraseIdx k).map V.int
  | [], k => by simp
  | n :: ns, 0 => rfl
  | n :: ns, k + 1 => by
    show V.int n :: (ns.map V.int).eraseIdx k = V.int n :: (ns.eraseIdx k).map V.int
    rw [erase_ints ns k]
theorem erase_ne {ps : List Int} (nd : ps.Nodup) {k j : Nat} {x y : Int} (hx : ps[k]? = some x) (hy : (ps.eraseIdx k)[j]? = some y) : x ≠ y := by
  rw [List.getElem?_eraseIdx] at hy
  intro e
  subst e
  by_cases h : j < k
  · rw [if_pos h] at hy
    exact absurd (nd_ix nd hy hx) (by omega)
  · rw [if_neg h] at hy
    exact absurd (nd_ix nd hy hx) (by omega)
section
variable {P : Program} {w : World} {K : PySem.W.Frag} {mg : Str → Option Value} {base : Heap}
theorem ok_roads (T : Tx K mg) : FnOk P w K mg base CX0 2 T.a_l_roads T.d_l_roads ["_law_state_here", "_law_places_here"] sp_roads := by
  have G_l_draw := ok_draw (P := P) (w := w) (base := base) T
  refine T.F_l_roads.ok sc_l_roads (fun vs H Q E h => ?_) (fun cdv A outer s H vs Q E hr h => ?_)
  · obtain ⟨_, _, _, _, _, rfl, _⟩ := h
    rfl
  · obtain ⟨s, c, a, B, ps, rfl, hW, ha, hP, q⟩ := h
    refine ⟨_, (pss_cons (ps_set (i := 2) sc_l_roads.nd rfl (Or.inl rfl) (pe_lst pa_nil))
  (pss_cons (ps_if (pt_cmpR op_lt (pe_callB (lenK (K := K) rfl) (by rfl) T.z_len (by decide +kernel) (pa_cons (pv 1) pa_nil)) pe_int (nomark _)) (pss_one (ps_ret (pv 2))) pss_nil)
  (pss_cons (ps_for PassesOwn.never rfl (pi_range1 rfl T.z_range (pa_cons (pe_call G_l_draw (hr.mono (by decide)) (by rfl) T.g_l_draw T.F_l_draw.kp T.b_l_draw .nil pass0 (pa_cons (pv 0) (pa_cons pe_int pa_nil))) pa_nil)) (pg_name (i := 3) sc_l_roads.nd rfl (Or.inl rfl))
   (pss_cons (ps_set (i := 4) sc_l_roads.nd rfl (Or.inl rfl) (pe_callTy (listK (K := K) rfl) (by rfl) T.z_list (by decide +kernel) (pa_cons (pv 1) pa_nil)))
  (pss_cons (ps_par (i := 5) (j := 6) rfl sc_l_roads.nd rfl rfl (by decide) rfl rfl (pa_cons (pe_bm PySem.F.plainAttrs_list PySem.F.slot_list_pop PySem.F.type_list_pop mt_popAt (pv 4) (pa_cons (pe_call G_l_draw (hr.mono (by decide)) (by rfl) T.g_l_draw T.F_l_draw.kp T.b_l_draw .nil pass0 (pa_cons (pv 0) (pa_cons (pe_callB (lenK (K := K) rfl) (by rfl) T.z_len (by decide +kernel) (pa_cons (pv 4) pa_nil)) pa_nil))) pa_nil)) (pa_cons (pe_bm PySem.F.plainAttrs_list PySem.F.slot_list_pop PySem.F.type_list_pop mt_popAt (pv 4) (pa_cons (pe_call G_l_draw (hr.mono (by decide)) (by rfl) T.g_l_draw T.F_l_draw.kp T.b_l_draw .nil pass0 (pa_cons (pv 0) (pa_cons (pe_callB (lenK (K := K) rfl) (by rfl) T.z_len (by decide +kernel) (pa_cons (pv 4) pa_nil)) pa_nil))) pa_nil)) pa_nil)) (by rfl))
  (pss_one (ps_expr (pe_bm PySem.F.plainAttrs_list PySem.F.slot_list_append PySem.F.type_list_append mt_append (pv 2) (pa_cons (pe_tup (pa_cons (pv 5) (pa_cons (pv 6) (pa_cons (pe_ix (ix_listK (K := K) rfl) (pe_lst (pa_cons pe_int (pa_cons pe_int (pa_cons (pe_op op_add pe_int (pe_call G_l_draw (hr.mono (by decide)) (by rfl) T.g_l_draw T.F_l_draw.kp T.b_l_draw .nil pass0 (pa_cons (pv 0) (pa_cons pe_int pa_nil)))) pa_nil)))) (pe_call G_l_draw (hr.mono (by decide)) (by rfl) T.g_l_draw T.F_l_draw.kp T.b_l_draw .nil pass0 (pa_cons (pv 0) (pa_cons pe_int pa_nil))) (fun _ _ => rfl)) pa_nil)))) pa_nil)))))))
  (pss_one (ps_ret (pv 2)))))), ?_⟩
    refine ⟨Nat.zero_le _, fun f hf => ?_⟩
    have hfs := hW.st.ne_s hf
    have hfc := hW.st.ne_c hf
    have hfB := hW.none_of hf
    have hW1 := hW.ext (Ex.new (o := .lst []) hf)
    have hf1 : (upd H f (.lst [])) f = some (.lst []) := upd_same
    refine ⟨_, rfl, a, _, rfl, .inl (SqL.of (hW1.ex _ _ ha)), _, 2, rfl, rfl, _, rfl, ite2 (fun _ => ?_) (fun hl => ?_)⟩
    · refine ⟨_, rfl, ?_⟩
      exact q f [] [] _ _ (Ex.new (o := .lst []) hfB) ⟨Nat.zero_le _, fun r hr => nomatch hr⟩ .nil hf upd_same (hW1.know hf1 hfs hfc)
    have hl2 : 2 ≤ ps.length := by
      have := of_decide_eq_false (Bool.eq_false_iff.mpr hl)
      rw [List.length_map] at this
      omega
    -- for turn in range(draw(state, 13))
    refine ⟨_, rfl, s, c, 13, rfl, hW1.st, by decide, by decide, fun r H1 r0 r1 st1 off1 => ?_⟩
    have hW2 := hW1.off st1 off1
    refine ⟨r, rfl, by omega, by omega, for_range (lo := 0) (n := r.toNat) (fun i σ H' => ∃ (ts : List V) (rs : List Row) (Bi : Hp) (y3 y4 y5 y6 : Option V), σ = [some (.ref s), some (.ref a), some (.ref f), y3, y4, y5, y6] ∧ Wd s c Bi H' ∧ Ex B Bi ∧
      Bi f = none ∧ H' f = some (.lst ts) ∧ RowsAt Bi ts rs ∧ rs.length ≤ i ∧ ∀ r ∈ rs, RoadOk ps r) ⟨[], [], B, _, _, _, _, rfl, hW2, Ex.refl B, hfB, (off1 f hfs hfc).trans upd_same, .nil, Nat.le_refl _, fun x hx => nomatch hx⟩ ?_ ?_⟩
    · rintro i σ H2 hi ⟨ts, rs, Bi, y3, y4, y5, y6, rfl, W2, eB, fB, f2, hrs, l0, ok⟩
      have haI := eB _ _ ha
      have lts := hrs.len
      -- left = list(places)
      refine ⟨_, rfl, a, _, rfl, .inl (SqL.of (W2.ex _ _ haI)), fun l hl => ?_⟩
      have lB := W2.none_of hl
      have lf : f ≠ l := ne_of_none f2 hl
      have ls := W2.st.ne_s hl
      have lc := W2.st.ne_c hl
      have W3 := W2.ext (Ex.new (o := .lst (ps.map V.int)) hl)
      have f3 := Ex.new (o := .lst (ps.map V.int)) hl _ _ f2
      have l3 : (upd H2 l (.lst (ps.map V.int))) l = some (.lst (ps.map V.int)) := upd_same
      -- one = left.pop(draw(state, len(left)))
      refine ⟨_, rfl, .inl ⟨rfl, _, SqL.of l3⟩, _, rfl, _, rfl, l, _, rfl, .inl (SqL.of l3), s, c, _, rfl, W3.st, by rw [List.length_map]; omega, by rw [List.length_map]; have := hP.l1; omega, fun k H4 k0 k1 st4 off4 => ?_⟩
      rw [List.length_map] at k1
      have W4 := W3.off st4 off4
      have f4 := (off4 f hfs hfc).trans f3
      have l4 := (off4 l ls lc).trans l3
      have hk : k.toNat < ps.length := by omega
      have gk : ps[k.toNat]? = some ps[k.toNat] := List.getElem?_eq_getElem hk
      refine ⟨l, _, k, k.toNat, .int ps[k.toNat], rfl, rfl, l4, by omega, by have := hP.l1; omega, seq_nat k0 (by rw [List.length_map]; exact k1), by rw [List.getElem?_map, gk]; rfl, ?_⟩
      rw [erase_ints]
      have W5 := W4.mut (o := .lst ((ps.eraseIdx k.toNat).map V.int)) lB ls lc
      have f5 : (upd H4 l (.lst ((ps.eraseIdx k.toNat).map V.int))) f = some (.lst ts) := by rw [upd_ne lf]; exact f4
      have l5 : (upd H4 l (.lst ((ps.eraseIdx k.toNat).map V.int))) l = some (.lst ((ps.eraseIdx k.toNat).map V.int)) := upd_same
      have le : (ps.eraseIdx k.toNat).length = ps.length - 1 := List.length_eraseIdx_of_lt hk
      -- other = left.pop(draw(state, len(left)))
      refine ⟨_, rfl, .inl ⟨rfl, _, SqL.of l5⟩, _, rfl, _, rfl, l, _, rfl, .inl (SqL.of l5), s, c, _, rfl, W5.st, by rw [List.length_map]; omega, by rw [List.length_map]; have := hP.l1; omega, fun j H6 j0 j1 st6 off6 => ?_⟩
      rw [List.length_map] at j1
      have W6 := W5.off st6 off6
      have f6 := (off6 f hfs hfc).trans f5
      have l6 := (off6 l ls lc).trans l5
      have hj : j.toNat < (ps.eraseIdx k.toNat).length := by omega
      have gj : (ps.eraseIdx k.toNat)[j.toNat]? = some (ps.eraseIdx k.toNat)[j.toNat] := List.getElem?_eq_getElem hj
      have dif := erase_ne hP.nd gk gj
      have mj : (ps.eraseIdx k.toNat)[j.toNat] ∈ ps := List.mem_of_mem_eraseIdx (List.getElem_mem hj)
      have mk : ps[k.toNat] ∈ ps := List.getElem_mem hk
      generalize hone : ps[k.toNat] = one at dif mk
      generalize hoth : (ps.eraseIdx k.toNat)[j.toNat] = oth at dif mj
      refine ⟨l, _, j, j.toNat, .int oth, rfl, rfl, l6, by omega, by have := hP.l1; omega, seq_nat j0 (by rw [List.length_map]; exact j1), by rw [List.getElem?_map, gj, hoth]; rfl, _, _, rfl, ?_⟩
      have W7 := W6.mut (o := .lst (((ps.eraseIdx k.toNat).map V.int).eraseIdx j.toNat)) lB ls lc
      have f7 : (upd H6 l (.lst (((ps.eraseIdx k.toNat).map V.int).eraseIdx j.toNat))) f = some (.lst ts) := by rw [upd_ne lf]; exact f6
      -- found.append((one, other, [1, 30, 1 + draw(state, 30)][draw(state, 3)]))
      refine ⟨_, rfl, .inl ⟨rfl, _, SqL.of f7⟩, _, rfl, _, rfl, _, rfl, s, c, 30, rfl, W7.st, by decide, by decide, fun t H8 t0 t1 st8 off8 => ?_⟩
      have W8 := W7.off st8 off8
      have f8 := (off8 f hfs hfc).trans f7
      refine ⟨1, t, rfl, rfl, by show 3 ≤ sizeLine; decide, fun p hp => ?_⟩
      have p9 : (upd H8 p (.lst [.int 1, .int 30, .int (1 + t)])) p = some (.lst [.int 1, .int 30, .int (1 + t)]) := upd_same
      have W9 := W8.ext (Ex.new (o := .lst [.int 1, .int 30, .int (1 + t)]) hp)
      have f9 := Ex.new (o := .lst [.int 1, .int 30, .int (1 + t)]) hp _ _ f8
      refine ⟨_, rfl, s, c, 3, rfl, W9.st, by decide, by decide, fun v H10 v0 v1 st10 off10 => ?_⟩
      have W10 := W9.off st10 off10
      have f10 := (off10 f hfs hfc).trans f9
      have p10 := (off10 p (W8.st.ne_s hp) (W8.st.ne_c hp)).trans p9
      obtain ⟨z, hz, z0, z1⟩ : ∃ z, atI [V.int 1, .int 30, .int (1 + t)] v = some (.int z) ∧ 1 ≤ z ∧ z ≤ 30 := by
        have : v = 0 ∨ v = 1 ∨ v = 2 := by omega
        rcases this with rfl | rfl | rfl
        · exact ⟨1, rfl, by omega, by omega⟩
        · exact ⟨30, rfl, by omega, by omega⟩
        · exact ⟨1 + t, rfl, by omega, by omega⟩
      refine ⟨p, _, v, _, rfl, rfl, SqL.of p10, hz, by show 3 ≤ sizeLine; decide, fun u hu => ?_⟩
      have uB := W10.none_of hu
      have u11 : (upd H10 u (.tup [.int one, .int oth, .int z])) u = some (.tup (rowV (one, oth, z))) := upd_same
      have f11 := Ex.new (o := .tup [.int one, .int oth, .int z]) hu _ _ f10
      have W11 := (W10.ext (Ex.new (o := .tup [.int one, .int oth, .int z]) hu)).know u11 (W10.st.ne_s hu) (W10.st.ne_c hu)
      have uf : f ≠ u := ne_of_none f10 hu
      have eB' : Ex Bi (upd Bi u (.tup (rowV (one, oth, z)))) := Ex.new uB
      have fB' : (upd Bi u (.tup (rowV (one, oth, z)))) f = none := by rw [upd_ne uf]; exact fB
      refine ⟨f, _, _, rfl, rfl, f11, len8 (by omega), ?_⟩
      refine ⟨ts ++ [.ref u], rs ++ [(one, oth, z)], _, _, _, _, _, by rw [← hone]; rfl, W11.mut fB' hfs hfc, eB.trans eB', fB', upd_same, RowsAt.snoc upd_same (hrs.mono eB'), by rw [List.length_append, List.length_singleton]; omega, fun x hx => ?_⟩
      rcases List.mem_append.mp hx with hx | hx
      · exact ok x hx
      · obtain rfl := List.mem_singleton.mp hx
        exact ⟨mk, mj, dif, z0, z1⟩
    · rintro σ H2 ⟨ts, rs, Bi, y3, y4, y5, y6, rfl, W2, eB, fB, f2, hrs, l0, ok⟩
      refine ⟨_, rfl, ?_⟩
      exact q f ts rs _ H2 (eB.trans (Ex.new fB)) ⟨by omega, ok⟩ (hrs.mono (Ex.new fB)) hf upd_same (W2.know f2 hfs hfc)
end
end K03

set_option maxHeartbeats 2000000
namespace K03
open PySem PySem.Spec PyProof.Rows L2 Evl MyG
/-! ### what makes a net -/
def sp_isnum : Sp := fun vs H Q _ => ∃ x t, vs = [x] ∧ AnyT H x t ∧ Q (.bl (t == "int")) H
def hallV : V → Bool
  | .int i => decide (0 ≤ i) && decide (i ≤ 999)
  | _ => false
def hallsB (xs : List V) : Bool := decide (1 ≤ xs.length) && (decide (xs.length ≤ 8) && (xs.all hallV && decide xs.Nodup))
def sp_areh : Sp := fun vs H Q _ => ∃ x t, vs = [x] ∧ AnyT H x t ∧ (t ≠ "list" → Q (.bl false) H) ∧ (t = "list" → ∃ a xs, x = .ref a ∧ H a = some (.lst xs) ∧ xs.length ≤ 1000 ∧ (∀ y ∈ xs, ∃ ty, AnyT H y ty) ∧ ∀ H', Ex H H' → Q (.bl (hallsB xs)) H')
theorem int_of' {H : Hp} {x : V} {t : String} (h : AnyT H x t) (e : t = "int") : ∃ i, x = .int i := by
  cases h with
  | int i => exact ⟨i, rfl⟩
  | _ => exact absurd e (by decide)
theorem int_of {H : Hp} {x : V} (h : AnyT H x "int") : ∃ i, x = .int i := int_of' h rfl
theorem not_int {H : Hp} {x : V} {t : String} (h : AnyT H x t) (ht : t ≠ "int") : hallV x = false := by
  cases h with
  | int i => exact absurd rfl ht
  | _ => rfl
theorem ints_of {xs : List V} (h : xs.all hallV = true) : ∃ ns : List Int, xs = ns.map V.int := by
  induction xs with
  | nil => exact ⟨[], rfl⟩
  | cons x r ih =>
    rw [List.all_cons, Bool.and_eq_true] at h
    obtain ⟨ns, rfl⟩ := ih h.2
    cases x with
    | int i => exact ⟨i :: ns, rfl⟩
    | _ => exact absurd h.1 (by simp [hallV])
theorem nodup_ints {ns : List Int} : (ns.map V.int).Nodup ↔ ns.Nodup := by
  constructor
  · intro h
    exact List.Pairwise.of_map V.int (fun a b (hab : V.int a ≠ V.int b) (e : a = b) => hab (by rw [e])) h
  · intro h
    exact List.Pairwise.map _ (fun a b (hab : a ≠ b) (e : V.int a = V.int b) => hab (V.int.inj e)) h
section
variable {P : Program} {w : World} {K : PySem.W.Frag} {mg : Str → Option Value} {base : Heap}
theorem ok_isnum (T : Tx K mg) : FnOk P w K mg base CX0 1 T.a_is_number T.d_is_number ["thing"] sp_isnum := by
  refine T.F_is_number.ok sc_is_number (fun vs H Q E h => ?_) (fun cdv A outer s H vs Q E hr h => ?_)
  · obtain ⟨_, _, rfl, _⟩ := h
    rfl
  · obtain ⟨x, t, rfl, ht, q⟩ := h
    refine ⟨_, (pss_one (ps_ret (pe_and (pe_callB (isiK (K := K) rfl) (by rfl) T.z_isinstance (by decide +kernel) (pa_cons (pv 0) (pa_cons (pe_bltn (v := .ty "int") (by rfl) T.z_int (by decide +kernel) rfl) pa_nil))) (pe_one (pe_not (pe_callB (isiK (K := K) rfl) (by rfl) T.z_isinstance (by decide +kernel) (pa_cons (pv 0) (pa_cons (pe_bltn (v := .ty "bool") (by rfl) T.z_bool (by decide +kernel) rfl) pa_nil)))))))), ?_⟩
    refine ⟨_, rfl, ?_⟩
    refine ⟨_, .ty "int", _, .type "int", _, rfl, .ty _, ht.ty, kit_ty (kit_all ht.mem).1, ?_⟩
    refine ⟨_, rfl, ?_⟩
    cases hb : (t == "int" || t == "bool") with
    | true =>
      refine iteT ?_
      refine ⟨_, rfl, ?_⟩
      refine ⟨_, .ty "bool", _, .type "bool", _, rfl, .ty _, ht.ty, kit_ty (kit_all ht.mem).2.1, ?_⟩
      refine ⟨_, rfl, ?_⟩
      rw [Bool.or_eq_true] at hb
      rcases hb with e | e
      · rw [eq_of_beq e] at q ⊢
        exact q
      · rw [eq_of_beq e] at q ⊢
        exact q
    | false =>
      refine iteF ?_
      rw [Bool.or_eq_false_iff] at hb
      rw [hb.1] at q
      exact q
theorem ok_areh (T : Tx K mg) : FnOk P w K mg base CX0 2 T.a__are_halls T.d__are_halls ["things"] sp_areh := by
  have G_is_number := ok_isnum (P := P) (w := w) (base := base) T
  refine T.F__are_halls.ok sc__are_halls (fun vs H Q E h => ?_) (fun cdv A outer s H vs Q E hr h => ?_)
  · obtain ⟨_, _, rfl, _⟩ := h
    rfl
  · obtain ⟨x, t, rfl, ht, q1, q2⟩ := h
    refine ⟨_, (pss_one (ps_ret (pe_and (pe_callB (isiK (K := K) rfl) (by rfl) T.z_isinstance (by decide +kernel) (pa_cons (pv 0) (pa_cons (pe_bltn (v := .ty "list") (by rfl) T.z_list (by decide +kernel) rfl) pa_nil))) (pe_and (pe_chain op_le op_le pe_int (pe_callB (lenK (K := K) rfl) (by rfl) T.z_len (by decide +kernel) (pa_cons (pv 0) pa_nil)) (pe_glob (v := .int (8)) rfl T.v_MOST_HALLS ⟨_, rfl⟩)) (pe_and (pe_callB (allK (K := K) rfl rfl) (by rfl) T.z_all (by decide +kernel) (pa_cons (pe_lc (own := [("thing", 1)]) (g := (gName 1)) (tt := tYes) rfl sc__are_halls.nd (iListK (K := K) rfl (pv 0)) (blkOk_by (N := n__are_halls) (sc := defScope s__are_halls) (by decide +kernel)) (fun _ _ _ _ _ => (pg_name (i := 1) sc__are_halls.nd rfl (Or.inl rfl))) (fun _ _ _ _ _ => pts_nil) (fun _ _ _ _ _ => (pe_and (pe_call G_is_number (hr.mono (by decide)) (by rfl) T.g_is_number T.F_is_number.kp T.b_is_number .nil pass0 (pa_cons (pv 1) pa_nil)) (pe_one (pe_chain op_le op_le pe_int (pv 1) (pe_glob (v := .int (999)) rfl T.v_LAST_HALL ⟨_, rfl⟩)))))) pa_nil)) (pe_one (pe_cmpR op_eq (lenSetK (K := K) rfl (by rfl) T.z_len (by rfl) T.z_set (pv 0)) (pe_callB (lenK (K := K) rfl) (by rfl) T.z_len (by decide +kernel) (pa_cons (pv 0) pa_nil)) (nomark _)))))))), ?_⟩
    refine ⟨_, rfl, ?_⟩
    refine ⟨_, .ty "list", _, .type "list", _, rfl, .ty _, ht.ty, kit_ty (kit_all ht.mem).2.2.1, ?_⟩
    refine ⟨_, rfl, ?_⟩
    by_cases e : t = "list"
    · subst e
      obtain ⟨a, xs, rfl, ha, hz, hany, q⟩ := q2 rfl
      refine iteT ?_
      -- 1 <= len(things) <= MOST_HALLS
      refine ⟨_, rfl, a, _, rfl, .inl (SqL.of ha), 1, _, rfl, rfl, _, rfl, ?_⟩
      by_cases l1 : 1 ≤ xs.length
      · rw [decide_eq_true (show (1 : Int) ≤ (xs.length : Int) by omega)]
        refine iteT ⟨_, 8, rfl, rfl, _, rfl, ?_⟩
        by_cases l2 : xs.length ≤ 8
        · rw [decide_eq_true (show (xs.length : Int) ≤ 8 by omega)]
          refine iteT ?_
          -- all([..])
          refine un_and (un_cb (un_cons ?_))
          refine go_L (el_map (ys := (xs.map hallV).map V.bl) (ev_var rfl) (SqL.of ha) (by omega) (by simp) (fun _ => rfl) (fun i x y H1 e1 hx hy => ?_)) (fun p H1 hp e1 h1 => ?_)
          · have hxm := List.mem_of_getElem? hx
            rw [List.map_map, List.getElem?_map, hx] at hy
            obtain rfl := Option.some.inj hy
            obtain ⟨ty, hty⟩ := hany x hxm
            intro H2 e2 Q q
            refine ⟨_, rfl, x, ty, rfl, (hty.ext e1).ext e2, _, rfl, ?_⟩
            by_cases ei : ty = "int"
            · subst ei
              obtain ⟨i, rfl⟩ := int_of hty
              refine iteT ⟨_, rfl, 0, i, rfl, rfl, _, rfl, ?_⟩
              by_cases h0 : 0 ≤ i
              · rw [decide_eq_true h0]
                refine iteT ⟨i, 999, rfl, rfl, ?_⟩
                have z := q H2 (Ex.refl _)
                show Q (.bl (decide (i ≤ 999))) H2
                have ez : hallV (.int i) = decide (i ≤ 999) := by
                  show (decide (0 ≤ i) && decide (i ≤ 999)) = _
                  rw [decide_eq_true h0, Bool.true_and]
                rw [← ez]
                exact z
              · rw [decide_eq_false h0]
                refine iteF ?_
                have z := q H2 (Ex.refl _)
                have ez : hallV (.int i) = false := by
                  show (decide (0 ≤ i) && decide (i ≤ 999)) = _
                  rw [decide_eq_false h0, Bool.false_and]
                rw [← ez]
                exact z
            · have eb : (ty == "int") = false := beq_eq_false_iff_ne.mpr ei
              rw [eb]
              refine iteF ?_
              have z := q H2 (Ex.refl _)
              have ez := not_int hty ei
              rw [← ez]
              exact z
          · refine ⟨p, xs.map hallV, rfl, SqL.of h1, _, rfl, ?_⟩
            have eall : (xs.map hallV).all id = xs.all hallV := by rw [List.all_map]; rfl
            rw [eall]
            cases hall : xs.all hallV with
            | true =>
              refine iteT ?_
              -- len(set(things)) == len(things)
              obtain ⟨ns, rfl⟩ := ints_of hall
              refine ⟨_, rfl, a, ns, rfl, SqL.of (e1 _ _ ha), by rw [List.length_map] at hz; omega, fun n hn => ⟨_, rfl, a, _, rfl, .inl (SqL.of (e1 _ _ ha)), rfl, ?_⟩⟩
              have z := q H1 e1
              have ez : hallsB (ns.map V.int) = decide (V.int (n : Int) = V.int ((ns.map V.int).length : Nat)) := by
                unfold hallsB
                rw [decide_eq_true l1, decide_eq_true l2, hall, Bool.true_and, Bool.true_and, Bool.true_and]
                refine decide_eq_decide.mpr (nodup_ints.trans (hn.symm.trans ?_))
                rw [List.length_map]
                exact ⟨fun e => by rw [e], fun e => by have := V.int.inj e; omega⟩
              rw [← ez]
              exact z
            | false =>
              refine iteF ?_
              have z := q H1 e1
              have ez : hallsB xs = false := by
                unfold hallsB
                rw [hall, Bool.false_and, Bool.and_false, Bool.and_false]
              rw [ez] at z
              exact z
        · rw [decide_eq_false (show ¬ (xs.length : Int) ≤ 8 by omega)]
          refine iteF ?_
          have z := q H (Ex.refl _)
          have ez : hallsB xs = false := by
            unfold hallsB
            rw [decide_eq_false l2, Bool.false_and, Bool.and_false]
          rw [ez] at z
          exact z
      · rw [decide_eq_false (show ¬ (1 : Int) ≤ (xs.length : Int) by omega)]
        refine iteF ⟨_, rfl, iteF ?_⟩
        have z := q H (Ex.refl _)
        have ez : hallsB xs = false := by
          unfold hallsB
          rw [decide_eq_false l1, Bool.false_and]
        rw [ez] at z
        exact z
    · have eb : (t == "list") = false := beq_eq_false_iff_ne.mpr e
      rw [eb]
      exact iteF (q1 e)
end
end K03

set_option maxHeartbeats 2000000
namespace K03
open PySem PySem.Spec PyProof.Rows L2 Evl MyG
def linkB (hs : List Int) : List V → Bool
  | [.int a, .int b, .int c] => decide (a ∈ hs) && (decide (b ∈ hs) && (!decide (a = b) && (decide (1 ≤ c) && decide (c ≤ 30))))
  | _ => false
def sp_isl : Sp := fun vs H Q _ => ∃ x t h hs, vs = [x, .ref h] ∧ AnyT H x t ∧ H h = some (.lst (hs.map V.int)) ∧ (t ≠ "tuple" → Q (.bl false) H) ∧
  (t = "tuple" → ∃ a xs, x = .ref a ∧ H a = some (.tup xs) ∧ xs.length ≤ 1000 ∧ (∀ y ∈ xs, ∃ ty, AnyT H y ty) ∧ ∀ H', Ex H H' → Q (.bl (linkB hs xs)) H')
theorem el_mapT {K : PySem.W.Frag} {σ : L2.St} {H : Hp} {te : TE} {a : Addr} {xs ys : List V} {tl : TE} {j : Nat} {vs : List Nat} (h : Ev tl σ H (.ref a)) (hx : SqT K H a xs) (hz : xs.length ≤ 40000) (hl : ys.length = xs.length)
    (hw : ∀ x, wipe ((wipe σ vs).set j (some x)) vs = wipe σ vs) (he : ∀ (i : Nat) (x y : V) H1, Ex H H1 → xs[i]? = some x → ys[i]? = some y → Ev te ((wipe σ vs).set j (some x)) H1 y) : EvL (tLc (iTup K tl) (gName j) tYes te vs) σ H ys := fun H0 e Q q =>
  h H0 e _ fun H1 e1 => ⟨a, rfl, ⟨xs, ex_t (e.trans e1) hx⟩, fun Dl hD => by
    refine lc_tup (xs := xs) (fun i H' => Ex H1 H' ∧ H' Dl = some (.lst (ys.take i))) ⟨Ex.new hD, upd_same⟩ (fun i H' _ p => ex_t ((e.trans e1).trans p.1) hx) (fun i x H' hi p => ⟨hw x, un_yes (iteT ?_)⟩) (fun H' p => q Dl H' (fresh_back e1 hD) (e1.trans p.1) ?_)
    · have h1 := (List.getElem?_eq_some_iff.mp hi).1
      have h2 : i < ys.length := by omega
      refine he i x ys[i] H' ((e.trans e1).trans p.1) hi (List.getElem?_eq_getElem h2) H' (Ex.refl _) _ (fun H2 e2 => ⟨_, e2 _ _ p.2, ?_, (p.1.trans e2).mut hD, ?_⟩)
      · rw [List.length_take]; exact sz_lt (by omega)
      · rw [upd_same, List.take_add_one, List.getElem?_eq_getElem h2]; rfl
    · rw [p.2, ← hl, List.take_length]⟩
theorem link_no (hs : List Int) {xs : List V} (h : xs.all (fun x => match x with | .int _ => true | _ => false) = false) : linkB hs xs = false := by
  unfold linkB
  split
  · exact absurd h (by simp)
  · rfl
section
variable {P : Program} {w : World} {K : PySem.W.Frag} {mg : Str → Option Value} {base : Heap}
theorem ok_isl (T : Tx K mg) : FnOk P w K mg base CX0 2 T.a__is_link T.d__is_link ["thing", "halls"] sp_isl := by
  have G_is_number := ok_isnum (P := P) (w := w) (base := base) T
  refine T.F__is_link.ok sc__is_link (fun vs H Q E h => ?_) (fun cdv A outer s H vs Q E hr h => ?_)
  · obtain ⟨_, _, _, _, rfl, _⟩ := h
    rfl
  · obtain ⟨x, t, h, hs, rfl, ht, hh, q1, q2⟩ := h
    refine ⟨_, (pss_cons (ps_if (PW.pt (pw_or (pt_not (pt_val (pe_callB (isiK (K := K) rfl) (by rfl) T.z_isinstance (by decide +kernel) (pa_cons (pv 0) (pa_cons (pe_bltn (v := .ty "tuple") (by rfl) T.z_tuple (by decide +kernel) rfl) pa_nil))))) (pw_or1 (pt_cmpR op_ne (pe_callB (lenK (K := K) rfl) (by rfl) T.z_len (by decide +kernel) (pa_cons (pv 0) pa_nil)) pe_int (nomark _))))) (pss_one (ps_ret pe_bl)) pss_nil)
  (pss_cons (ps_if (pt_not (pt_val (pe_callB (allK (K := K) rfl rfl) (by rfl) T.z_all (by decide +kernel) (pa_cons (pe_lc (own := [("part", 5)]) (g := (gName 5)) (tt := tYes) rfl sc__is_link.nd (iTupK (K := K) rfl (pv 0)) (blkOk_by (N := n__is_link) (sc := defScope s__is_link) (by decide +kernel)) (fun _ _ _ _ _ => (pg_name (i := 5) sc__is_link.nd rfl (Or.inl rfl))) (fun _ _ _ _ _ => pts_nil) (fun _ _ _ _ _ => (pe_call G_is_number (hr.mono (by decide)) (by rfl) T.g_is_number T.F_is_number.kp T.b_is_number .nil pass0 (pa_cons (pv 5) pa_nil)))) pa_nil)))) (pss_one (ps_ret pe_bl)) pss_nil)
  (pss_cons (ps_asg (pv 0) (pg_tup rfl (pgs_cons (pg_name (i := 2) sc__is_link.nd rfl (Or.inl rfl)) (pgs_cons (pg_name (i := 3) sc__is_link.nd rfl (Or.inl rfl)) (pgs_cons (pg_name (i := 4) sc__is_link.nd rfl (Or.inl rfl)) pgs_nil)))))
  (pss_one (ps_ret (pe_and (pe_cmpR (op_inK (K := K) rfl) (pv 2) (pv 1) (by rfl)) (pe_and (pe_cmpR (op_inK (K := K) rfl) (pv 3) (pv 1) (by rfl)) (pe_and (pe_cmpR op_ne (pv 2) (pv 3) (nomark _)) (pe_one (pe_chain op_le op_le pe_int (pv 4) (pe_glob (v := .int (30)) rfl T.v_MOST_COST ⟨_, rfl⟩))))))))))), ?_⟩
    refine ⟨_, rfl, ?_⟩
    refine ⟨_, .ty "tuple", _, .type "tuple", _, rfl, .ty _, ht.ty, kit_ty (kit_all ht.mem).2.2.2.1, _, rfl, ?_⟩
    by_cases e : t = "tuple"
    · subst e
      obtain ⟨a, xs, rfl, ha, hz, hany, q⟩ := q2 rfl
      refine iteF ?_
      -- len(thing) != 3
      refine ⟨_, rfl, a, _, rfl, .inr (SqT.of ha), rfl, _, rfl, ?_⟩
      by_cases l3 : xs.length = 3
      · rw [show decide (V.int (xs.length : Nat) = V.int 3) = true from decide_eq_true (by rw [l3]; rfl)]
        refine iteF ?_
        -- if not all([..])
        let isI : V → Bool := fun x => match x with | .int _ => true | _ => false
        refine un_next ?_
        dsimp only
        refine un_seq (un_if (un_not (un_tB (un_cb (un_cons ?_)))))
        refine go_L (el_mapT (ys := (xs.map isI).map V.bl) (ev_var rfl) (SqT.of ha) (by omega) (by simp) (fun _ => rfl) (fun i x y H1 e1 hx hy => ?_)) (fun p H1 hp e1 h1 => ?_)
        · have hxm := List.mem_of_getElem? hx
          rw [List.map_map, List.getElem?_map, hx] at hy
          obtain rfl := Option.some.inj hy
          obtain ⟨ty, hty⟩ := hany x hxm
          intro H2 e2 Q q
          refine ⟨_, rfl, x, ty, rfl, (hty.ext e1).ext e2, ?_⟩
          have z := q H2 (Ex.refl _)
          have ez : isI x = (ty == "int") := by
            cases hty <;> rfl
          rw [← ez]
          exact z
        · refine ⟨p, xs.map isI, rfl, SqL.of h1, _, rfl, ?_⟩
          have eall : (xs.map isI).all id = xs.all isI := by rw [List.all_map]; rfl
          rw [eall]
          cases hall : xs.all isI with
          | false =>
            refine iteT ?_
            have z := q H1 e1
            rw [link_no hs hall] at z
            exact z
          | true =>
            refine iteF ?_
            obtain ⟨o, u, v, rfl⟩ : ∃ o u v : Int, xs = [.int o, .int u, .int v] := by
              match xs, l3, hall with
              | [x1, x2, x3], _, hall =>
                rw [List.all_eq_true] at hall
                have f : ∀ x, isI x = true → ∃ i, x = .int i := fun x hx => by
                  cases x with
                  | int i => exact ⟨i, rfl⟩
                  | _ => exact absurd hx (by simp [isI])
                obtain ⟨o, rfl⟩ := f x1 (hall x1 (by simp))
                obtain ⟨u, rfl⟩ := f x2 (hall x2 (by simp))
                obtain ⟨v, rfl⟩ := f x3 (hall x3 (by simp))
                exact ⟨o, u, v, rfl⟩
            have hh1 := e1 _ _ hh
            -- one, other, cost = thing
            refine ⟨_, rfl, a, _, rfl, SqT.of (e1 _ _ ha), rfl, _, _, rfl, _, _, rfl, _, _, rfl, rfl, ?_⟩
            -- return ..
            have z := q H1 e1
            have ez : linkB hs [.int o, .int u, .int v] = (decide (o ∈ hs) && (decide (u ∈ hs) && (!decide (o = u) && (decide (1 ≤ v) && decide (v ≤ 30))))) := rfl
            rw [ez] at z
            refine ⟨_, rfl, _, rfl, h, _, rfl, .inl (SqL.of hh1), rfl, flat_ints hs, _, rfl, ?_⟩
            rw [inV_ints]
            cases d1 : decide (o ∈ hs) with
            | false =>
              rw [d1] at z
              exact iteF z
            | true =>
              rw [d1] at z
              refine iteT ⟨_, rfl, _, rfl, h, _, rfl, .inl (SqL.of hh1), rfl, flat_ints hs, _, rfl, ?_⟩
              rw [inV_ints]
              cases d2 : decide (u ∈ hs) with
              | false =>
                rw [d2] at z
                exact iteF z
              | true =>
                rw [d2] at z
                refine iteT ⟨_, rfl, _, rfl, rfl, _, rfl, ?_⟩
                have e3 : decide (V.int o = V.int u) = decide (o = u) := decide_eq_decide.mpr ⟨fun e => V.int.inj e, fun e => by rw [e]⟩
                rw [e3]
                cases d3 : decide (o = u) with
                | true =>
                  rw [d3] at z
                  exact iteF z
                | false =>
                  rw [d3] at z
                  refine iteT ⟨_, rfl, 1, v, rfl, rfl, _, rfl, ?_⟩
                  cases d4 : decide (1 ≤ v) with
                  | false =>
                    rw [d4] at z
                    exact iteF z
                  | true =>
                    rw [d4] at z
                    exact iteT ⟨v, 30, rfl, rfl, z⟩
      · rw [show decide (V.int (xs.length : Nat) = V.int 3) = false from decide_eq_false (fun e => l3 (by have := V.int.inj e; omega))]
        refine iteT ?_
        have z := q H (Ex.refl _)
        have ez : linkB hs xs = false := by
          unfold linkB
          split
          · exact absurd rfl l3
          · rfl
        rw [ez] at z
        exact z
    · have eb : (t == "tuple") = false := beq_eq_false_iff_ne.mpr e
      rw [eb]
      exact iteT (q1 e)
end
end K03

set_option maxHeartbeats 2000000
namespace K03
open PySem PySem.Spec PyProof.Rows L2 Evl MyG
/-- what each thing of a list of links is: a tuple of these, or none -/
def ThingsAt (H : Hp) : List V → List (Option (List V)) → Prop := Paired fun (x : V) (d : Option (List V)) => match d with
  | none => ∃ t, AnyT H x t ∧ t ≠ "tuple"
  | some ys => ∃ a, x = .ref a ∧ H a = some (.tup ys) ∧ ys.length ≤ 1000 ∧ ∀ y ∈ ys, ∃ ty, AnyT H y ty
def thingB (hs : List Int) : Option (List V) → Bool
  | none => false
  | some ys => linkB hs ys
def linksB (hs : List Int) (ds : List (Option (List V))) : Bool := decide (ds.length ≤ 12) && ds.all (thingB hs)
def sp_arel : Sp := fun vs H Q _ => ∃ x t h hs, vs = [x, .ref h] ∧ AnyT H x t ∧ H h = some (.lst (hs.map V.int)) ∧ (t ≠ "list" → Q (.bl false) H) ∧
  (t = "list" → ∃ a xs ds, x = .ref a ∧ H a = some (.lst xs) ∧ xs.length ≤ 1000 ∧ ThingsAt H xs ds ∧ ∀ H', Ex H H' → Q (.bl (linksB hs ds)) H')
theorem paired_at {α β : Type} {R : α → β → Prop} : ∀ {xs : List α} {ys : List β} {i : Nat} {x : α}, Paired R xs ys → xs[i]? = some x → ∃ y, ys[i]? = some y ∧ R x y
  | _, _, _, _, .nil, e => by simp at e
  | _, _, 0, _, .cons r _, e => by simp at e; subst e; exact ⟨_, rfl, r⟩
  | _, _, i + 1, x, .cons _ t, e => by
    obtain ⟨y, h1, h2⟩ := paired_at (i := i) (x := x) t (by simpa using e)
    exact ⟨y, by simpa using h1, h2⟩
section
variable {P : Program} {w : World} {K : PySem.W.Frag} {mg : Str → Option Value} {base : Heap}
theorem ok_arel (T : Tx K mg) : FnOk P w K mg base CX0 3 T.a__are_links T.d__are_links ["things", "halls"] sp_arel := by
  have G__is_link := ok_isl (P := P) (w := w) (base := base) T
  refine T.F__are_links.ok sc__are_links (fun vs H Q E h => ?_) (fun cdv A outer s H vs Q E hr h => ?_)
  · obtain ⟨_, _, _, _, rfl, _⟩ := h
    rfl
  · obtain ⟨x, t, h, hs, rfl, ht, hh, q1, q2⟩ := h
    refine ⟨_, (pss_one (ps_ret (pe_and (pe_callB (isiK (K := K) rfl) (by rfl) T.z_isinstance (by decide +kernel) (pa_cons (pv 0) (pa_cons (pe_bltn (v := .ty "list") (by rfl) T.z_list (by decide +kernel) rfl) pa_nil))) (pe_and (pe_cmpR op_le (pe_callB (lenK (K := K) rfl) (by rfl) T.z_len (by decide +kernel) (pa_cons (pv 0) pa_nil)) (pe_glob (v := .int (12)) rfl T.v_MOST_LINKS ⟨_, rfl⟩) (nomark _)) (pe_one (pe_callB (allK (K := K) rfl rfl) (by rfl) T.z_all (by decide +kernel) (pa_cons (pe_lc (own := [("thing", 2)]) (g := (gName 2)) (tt := tYes) rfl sc__are_links.nd (iListK (K := K) rfl (pv 0)) (blkOk_by (N := n__are_links) (sc := defScope s__are_links) (by decide +kernel)) (fun _ _ _ _ _ => (pg_name (i := 2) sc__are_links.nd rfl (Or.inl rfl))) (fun _ _ _ _ _ => pts_nil) (fun _ _ _ _ _ => (pe_call G__is_link (hr.mono (by decide)) (by rfl) T.g__is_link T.F__is_link.kp T.b__is_link .nil pass0 (pa_cons (pv 2) (pa_cons (pv 1) pa_nil))))) pa_nil))))))), ?_⟩
    refine ⟨_, rfl, ?_⟩
    refine ⟨_, .ty "list", _, .type "list", _, rfl, .ty _, ht.ty, kit_ty (kit_all ht.mem).2.2.1, _, rfl, ?_⟩
    by_cases e : t = "list"
    · subst e
      obtain ⟨a, xs, ds, rfl, ha, hz, hds, q⟩ := q2 rfl
      have ldx : xs.length = ds.length := Paired.length hds
      refine iteT ?_
      -- len(things) <= MOST_LINKS
      refine ⟨_, rfl, a, _, rfl, .inl (SqL.of ha), _, 12, rfl, rfl, _, rfl, ?_⟩
      by_cases l2 : xs.length ≤ 12
      · rw [decide_eq_true (show (xs.length : Int) ≤ 12 by omega)]
        refine iteT ?_
        refine un_cb (un_cons ?_)
        refine go_L (el_map (ys := (ds.map (thingB hs)).map V.bl) (ev_var rfl) (SqL.of ha) (by omega) (by simp [ldx]) (fun _ => rfl) (fun i x y H1 e1 hx hy => ?_)) (fun p H1 hp e1 h1 => ?_)
        · obtain ⟨d, hd, hR⟩ := paired_at hds hx
          rw [List.map_map, List.getElem?_map, hd] at hy
          obtain rfl := Option.some.inj hy
          intro H2 e2 Q q
          have z := q H2 (Ex.refl _)
          have ee := e1.trans e2
          cases d with
          | none =>
            obtain ⟨t, hty, hne⟩ := hR
            exact ⟨_, rfl, _, rfl, x, t, h, hs, rfl, hty.ext ee, ee _ _ hh, fun _ => z, fun e => absurd e hne⟩
          | some ys =>
            obtain ⟨b, rfl, hb, hbl, hby⟩ := hR
            exact ⟨_, rfl, _, rfl, .ref b, "tuple", h, hs, rfl, .tup (ee _ _ hb), ee _ _ hh, fun e => absurd rfl e, fun _ => ⟨b, ys, rfl, ee _ _ hb, hbl, fun y hy => let ⟨ty, k⟩ := hby y hy; ⟨ty, k.ext ee⟩, fun H3 e3 => q H3 e3⟩⟩
        · refine ⟨p, ds.map (thingB hs), rfl, SqL.of h1, ?_⟩
          have z := q H1 e1
          have eall : (ds.map (thingB hs)).all id = linksB hs ds := by
            unfold linksB
            rw [decide_eq_true (show ds.length ≤ 12 by omega), Bool.true_and, List.all_map]
            rfl
          rw [eall]
          exact z
      · rw [decide_eq_false (show ¬ (xs.length : Int) ≤ 12 by omega)]
        refine iteF ?_
        have z := q H (Ex.refl _)
        have ez : linksB hs ds = false := by
          unfold linksB
          rw [decide_eq_false (show ¬ ds.length ≤ 12 by omega), Bool.false_and]
        rw [ez] at z
        exact z
    · have eb : (t == "list") = false := beq_eq_false_iff_ne.mpr e
      rw [eb]
      exact iteF (q1 e)
end
/-! ### a net -/
def nf (h r l : Addr) : List (Str × V) := putF "_links" (.ref l) (putF "_rising" (.ref r) (putF "_handed" (.ref h) []))
theorem hr_ : ¬ (("_handed" : Str) = "_rising") := by decide +kernel
theorem hl_ : ¬ (("_handed" : Str) = "_links") := by decide +kernel
theorem rl_ : ¬ (("_rising" : Str) = "_links") := by decide +kernel
theorem nf_h (h r l : Addr) : (nf h r l).lookup ("_handed" : Str) = some (.ref h) := by
  unfold nf
  rw [lookup_putF, if_neg hl_, lookup_putF, if_neg hr_, lookup_putF, if_pos rfl]
theorem nf_r (h r l : Addr) : (nf h r l).lookup ("_rising" : Str) = some (.ref r) := by
  unfold nf
  rw [lookup_putF, if_neg rl_, lookup_putF, if_pos rfl]
theorem nf_l (h r l : Addr) : (nf h r l).lookup ("_links" : Str) = some (.ref l) := by
  unfold nf
  rw [lookup_putF, if_pos rfl]
theorem nf_no (h r l : Addr) {m : Str} (h1 : ¬ m = "_links") (h2 : ¬ m = "_rising") (h3 : ¬ m = "_handed") : (nf h r l).lookup m = none := by
  unfold nf
  rw [lookup_putF, if_neg h1, lookup_putF, if_neg h2, lookup_putF, if_neg h3]
  rfl
structure NetAt (C : Addr) (B : Hp) (n : Addr) (ps qs : List Int) (rs : List Row) : Prop where
  ex : ∃ dx h r l ts, B n = some (.ins C dx (nf h r l)) ∧ B h = some (.lst (ps.map V.int)) ∧ B r = some (.lst (qs.map V.int)) ∧ B l = some (.lst ts) ∧ RowsAt B ts rs
  pm : qs.Perm ps
  so : qs.Pairwise (· ≤ ·)
theorem halls_ok {ps : List Int} (h : Places ps) : hallsB (ps.map V.int) = true := by
  unfold hallsB
  rw [List.length_map, decide_eq_true h.l0, decide_eq_true h.l1, decide_eq_true (nodup_ints.mpr h.nd)]
  rw [Bool.true_and, Bool.true_and, Bool.and_true, List.all_map, List.all_eq_true]
  intro x hx
  obtain ⟨h0, h1⟩ := h.bd x hx
  show (decide (0 ≤ x) && decide (x ≤ 999)) = true
  rw [decide_eq_true h0, decide_eq_true h1]
  rfl
theorem links_ok {ps : List Int} {rs : List Row} (h : Roads ps rs) : linksB ps (rs.map fun r => some (rowV r)) = true := by
  unfold linksB
  rw [List.length_map, decide_eq_true h.len, Bool.true_and, List.all_map, List.all_eq_true]
  intro r hr
  have k := h.ok r hr
  show (decide (r.1 ∈ ps) && (decide (r.2.1 ∈ ps) && (!decide (r.1 = r.2.1) && (decide (1 ≤ r.2.2) && decide (r.2.2 ≤ 30))))) = true
  rw [decide_eq_true k.m1, decide_eq_true k.m2, decide_eq_false k.ne, decide_eq_true k.c0, decide_eq_true k.c1]
  rfl
theorem row_int {r : Row} {y : V} (h : y ∈ rowV r) : ∃ i, y = .int i := by
  simp only [rowV, List.mem_cons, List.not_mem_nil, or_false] at h
  rcases h with rfl | rfl | rfl <;> exact ⟨_, rfl⟩
theorem rows_things {B H : Hp} (e : Ex B H) : ∀ {ts : List V} {rs : List Row}, RowsAt B ts rs → ThingsAt H ts (rs.map fun r => some (rowV r))
  | _, _, .nil => .nil
  | _, _, .cons ⟨a, h1, h2⟩ t => .cons ⟨a, h1, e _ _ h2, by show 3 ≤ 1000; decide, fun y hy => by
      obtain ⟨i, rfl⟩ := row_int hy
      exact ⟨"int", .int i⟩⟩ (rows_things e t)
def sp_init (C : Addr) : Sp := fun vs H Q _ => ∃ (dx n a b : Addr) (ps : List Int) (ts : List V) (rs : List Row) (B : Hp), vs = [.ref n, .ref a, .ref b] ∧ H n = some (.ins C dx []) ∧ Ex B H ∧ B n = none ∧ H a = some (.lst (ps.map V.int)) ∧ H b = some (.lst ts) ∧
  Places ps ∧ Roads ps rs ∧ RowsAt B ts rs ∧ ∀ (H' : Hp) (h r l : Addr) (qs : List Int), (∀ x o, x ≠ n → H x = some o → H' x = some o) → H h = none → H r = none → H l = none → H' n = some (.ins C dx (nf h r l)) → H' h = some (.lst (ps.map V.int)) →
    H' r = some (.lst (qs.map V.int)) → qs.Perm ps → qs.Pairwise (· ≤ ·) → H' l = some (.lst ts) → Q .non H'
section
variable {P : Program} {w : World} {K : PySem.W.Frag} {mg : Str → Option Value} {base : Heap}
theorem ok_init (T : Tx K mg) : FnOk P w K mg base CX0 4 T.a_Net___init__ T.d_Net___init__ ["self", "halls", "links"] (sp_init T.c_Net) := by
  have G__are_halls := ok_areh (P := P) (w := w) (base := base) T
  have G__are_links := ok_arel (P := P) (w := w) (base := base) T
  refine T.F_Net___init__.ok sc_Net___init__ (fun vs H Q E h => ?_) (fun cdv A outer s H vs Q E hr h => ?_)
  · obtain ⟨_, _, _, _, _, _, _, _, rfl, _⟩ := h
    rfl
  · obtain ⟨dx, n, a, b, ps, ts, rs, B, rfl, hn, eB, nB, ha, hb, hP, hR, hrs, q⟩ := h
    refine ⟨_, (pss_cons (ps_if (pt_not (pt_val (pe_call G__are_halls (hr.mono (by decide)) (by rfl) T.g__are_halls T.F__are_halls.kp T.b__are_halls .nil pass0 (pa_cons (pv 1) pa_nil)))) (pss_one ps_never) pss_nil)
  (pss_cons (ps_if (pt_not (pt_val (pe_call G__are_links (hr.mono (by decide)) (by rfl) T.g__are_links T.F__are_links.kp T.b__are_links .nil pass0 (pa_cons (pv 2) (pa_cons (pv 1) pa_nil))))) (pss_one ps_never) pss_nil)
  (pss_cons (ps_fld (pv 0) (pe_callTy (listK (K := K) rfl) (by rfl) T.z_list (by decide +kernel) (pa_cons (pv 1) pa_nil)) rfl)
  (pss_cons (ps_fld (pv 0) (pe_callB (sortedK (K := K) rfl) (by rfl) T.z_sorted (by decide +kernel) (pa_cons (pv 1) pa_nil)) rfl)
  (pss_one (ps_fld (pv 0) (pe_callTy (listK (K := K) rfl) (by rfl) T.z_list (by decide +kernel) (pa_cons (pv 2) pa_nil)) rfl)))))), ?_⟩
    have lts := hrs.len
    refine ⟨_, rfl, .ref a, "list", rfl, .lst ha, fun e => absurd rfl e, fun _ => ⟨a, _, rfl, ha, by rw [List.length_map]; have := hP.l1; omega, fun y hy => ?_, fun H1 e1 => ⟨_, rfl, ?_⟩⟩⟩
    · obtain ⟨i, _, rfl⟩ := List.mem_map.mp hy
      exact ⟨"int", .int i⟩
    rw [halls_ok hP]
    refine iteF ?_
    refine ⟨_, rfl, _, rfl, .ref b, "list", a, ps, rfl, .lst (e1 _ _ hb), e1 _ _ ha, fun e => absurd rfl e, fun _ => ⟨b, ts, _, rfl, e1 _ _ hb, by have := hR.len; omega, rows_things (eB.trans e1) hrs, fun H2 e2 => ⟨_, rfl, ?_⟩⟩⟩
    rw [links_ok hR]
    refine iteF ?_
    have e12 := e1.trans e2
    have n2 := e12 _ _ hn
    -- self._handed = list(halls)
    refine ⟨_, rfl, a, _, rfl, .inl (SqL.of (e12 _ _ ha)), fun h hh => ?_⟩
    have nh := ne_of_none n2 hh
    refine ⟨_, rfl, n, T.c_Net, dx, [], rfl, (by rw [upd_ne nh]; exact n2), T.cl_Net, T.n_Net__handed, (by show 0 < 1000; decide), ?_⟩
    -- self._rising = sorted(halls)
    have na : a ≠ n := ne_of ha hn (by intro z; cases z)
    have nah := ne_of_none (e12 _ _ ha) hh
    refine ⟨_, rfl, a, ps, rfl, SqL.of (by rw [upd_ne na, upd_ne nah]; exact e12 _ _ ha), by have := hP.l1; omega, fun qs r hp hso hr' => ?_⟩
    have nrn : r ≠ n := fun z => by rw [z, upd_same] at hr'; cases hr'
    have nrh : r ≠ h := fun z => by rw [z, upd_ne nh.symm, upd_same] at hr'; cases hr'
    have hr0 : H2 r = none := by rw [upd_ne nrn, upd_ne nrh] at hr'; exact hr'
    refine ⟨_, rfl, n, T.c_Net, dx, _, rfl, Eq.trans (upd_ne nrn.symm) upd_same, T.cl_Net, T.n_Net__rising, (by show 1 < 1000; decide), ?_⟩
    -- self._links = list(links)
    have nb : b ≠ n := ne_of hb hn (by intro z; cases z)
    have nbh := ne_of_none (e12 _ _ hb) hh
    have nbr := ne_of_none (e12 _ _ hb) hr0
    refine ⟨_, rfl, b, ts, rfl, .inl (SqL.of (by rw [upd_ne nb, upd_ne nbr, upd_ne nb, upd_ne nbh]; exact e12 _ _ hb)), fun l hl => ?_⟩
    have nln : l ≠ n := fun z => by rw [z, upd_same] at hl; cases hl
    have nlr : l ≠ r := fun z => by rw [z, upd_ne nrn, upd_same] at hl; cases hl
    have nlh : l ≠ h := fun z => by rw [z, upd_ne nh.symm, upd_ne nrh.symm, upd_ne nh.symm, upd_same] at hl; cases hl
    have hl0 : H2 l = none := by rw [upd_ne nln, upd_ne nlr, upd_ne nln, upd_ne nlh] at hl; exact hl
    refine ⟨_, rfl, n, T.c_Net, dx, _, rfl, Eq.trans (upd_ne nln.symm) upd_same, T.cl_Net, T.n_Net__links, (by show 2 < 1000; decide), ?_⟩
    refine q _ h r l qs (fun x o hx e => ?_) (fresh_back e12 hh) (fresh_back e12 hr0) (fresh_back e12 hl0) upd_same ?_ ?_ hp hso ?_
    · have e2' := e12 _ _ e
      rw [upd_ne hx, upd_ne (ne_of_none e2' hl0), upd_ne hx, upd_ne (ne_of_none e2' hr0), upd_ne hx, upd_ne (ne_of_none e2' hh)]
      exact e2'
    · rw [upd_ne nh.symm, upd_ne nlh.symm, upd_ne nh.symm, upd_ne nrh.symm, upd_ne nh.symm, upd_same]
    · rw [upd_ne nrn, upd_ne nlr.symm, upd_ne nrn, upd_same]
    · rw [upd_ne nln, upd_same]
end
end K03

set_option maxHeartbeats 4000000
namespace K03
open PySem PySem.Spec PyProof.Rows L2 Evl MyG
/-! ### what many laws share: texts of data, nets made -/
/-- what can be shown -/
structure Shows (K : PySem.W.Frag) (H : Hp) (x : V) (d : PyData) : Prop where
  dp : Dp K H x d
  sh : d.showable = true
  nd : d.hasDict = false
  dt : d.depth ≤ 40
  ln : d.shown.length ≤ sizeLine
theorem Shows.of {K : PySem.W.Frag} {H : Hp} {x : V} {d : PyData} {k L : Nat} (h : Dp K H x d) (s : Small d k L) (hk : k ≤ 40 := by decide) (hL : L ≤ 16000000 := by decide) : Shows K H x d :=
  ⟨h, s.sh, s.nd, Nat.le_trans s.dp hk, Nat.le_trans (Nat.le_trans s.ln hL) (by rw [sizeLine_eq]; decide)⟩
theorem small_ints {ns : List Int} {N : Nat} (hl : ns.length ≤ N) (hb : ∀ x ∈ ns, x.natAbs < 10 ^ 9) : Small (.list (ns.map PyData.int)) 1 (N * 12 + 3) := by
  have h := small_list (k := 0) (L := 10) (ds := ns.map PyData.int) (fun d hd => by
    obtain ⟨x, hx, rfl⟩ := List.mem_map.mp hd
    exact small_int (hb x hx))
  refine h.mono (Nat.le_refl _) ?_
  rw [List.length_map]
  have := Nat.mul_le_mul_right 12 hl
  omega
theorem fork {te : TE} {σ : L2.St} {H : Hp} {Q : VK} (G : V → Hp → Prop) (h : ∀ K' : VK, (∀ x H', G x H' → K' x H') → te σ H K') (k : ∀ x H', G x H' → Q x H') : te σ H Q := h Q k
/-- a net that was made, and what it was made of, known behind -/
theorem net_made {s c : Addr} {B H3 H' : Hp} {C n dx h r l : Addr} {ps qs : List Int} {ts : List V} {rs : List Row} (W : Wd s c B H3) (hn : H3 n = none) (hdx : H3 dx = none)
    (frame : ∀ x o, x ≠ n → (upd (upd H3 dx (.own n)) n (.ins C dx [])) x = some o → H' x = some o) (hh : (upd (upd H3 dx (.own n)) n (.ins C dx [])) h = none) (hr : (upd (upd H3 dx (.own n)) n (.ins C dx [])) r = none) (hl : (upd (upd H3 dx (.own n)) n (.ins C dx [])) l = none)
    (e1 : H' n = some (.ins C dx (nf h r l))) (e2 : H' h = some (.lst (ps.map V.int))) (e3 : H' r = some (.lst (qs.map V.int))) (pm : qs.Perm ps) (so : qs.Pairwise (· ≤ ·)) (e4 : H' l = some (.lst ts)) (hrs : RowsAt B ts rs) :
    ∃ B3, Ex B B3 ∧ Wd s c B3 H' ∧ NetAt C B3 n ps qs rs ∧ (∀ x, B x = none → H3 x ≠ none → B3 x = none) ∧ Ex H3 H' := by
  have ne : ∀ {p : Addr}, (upd (upd H3 dx (.own n)) n (.ins C dx [])) p = none → p ≠ n ∧ H3 p = none := fun {p} hp => by
    have h1 : p ≠ n := fun z => by rw [z, upd_same] at hp; cases hp
    have h2 : p ≠ dx := fun z => by rw [upd_ne h1, z, upd_same] at hp; cases hp
    rw [upd_ne h1, upd_ne h2] at hp
    exact ⟨h1, hp⟩
  have exH : Ex H3 H' := fun x o e => frame x o (ne_of_none e hn) (by rw [upd_ne (ne_of_none e hn), upd_ne (ne_of_none e hdx)]; exact e)
  obtain ⟨hn1, h3⟩ := ne hh
  obtain ⟨rn1, r3⟩ := ne hr
  obtain ⟨ln1, l3⟩ := ne hl
  have W1 := W.ext exH
  have stn : ∀ {p : Addr}, H3 p = none → p ≠ s ∧ p ≠ c := fun hp => ⟨W.st.ne_s hp, W.st.ne_c hp⟩
  have W2 := W1.know e2 (stn h3).1 (stn h3).2
  have W3 := W2.know e3 (stn r3).1 (stn r3).2
  have W4 := W3.know e4 (stn l3).1 (stn l3).2
  have W5 := W4.know e1 (stn hn).1 (stn hn).2
  have step : ∀ {B : Hp} {p : Addr} {o : HO}, H' p = some o → Ex B H' → Ex B (upd B p o) := fun {B p o} hp eB a u ea => by
    by_cases z : a = p
    · rw [z, upd_same, ← hp, ← z]
      exact eB a u ea
    · rw [upd_ne z]; exact ea
  have eB := (step e2 W1.ex).trans ((step e3 W2.ex).trans ((step e4 W3.ex).trans (step e1 W4.ex)))
  refine ⟨_, eB, W5, ⟨⟨dx, h, r, l, ts, upd_same, ?_, ?_, ?_, hrs.mono eB⟩, pm, so⟩, fun x hx hk => ?_, exH⟩
  · have := W5.ex
    cases q : (upd (upd (upd (upd B h (.lst (ps.map V.int))) r (.lst (qs.map V.int))) l (.lst ts)) n (.ins C dx (nf h r l))) h with
    | some o => rw [← this _ _ q]; exact e2
    | none =>
      exfalso
      by_cases z1 : h = n
      · rw [z1, upd_same] at q; cases q
      by_cases z2 : h = l
      · rw [upd_ne z1, z2, upd_same] at q; cases q
      by_cases z3 : h = r
      · rw [upd_ne z1, upd_ne z2, z3, upd_same] at q; cases q
      · rw [upd_ne z1, upd_ne z2, upd_ne z3, upd_same] at q; cases q
  · have := W5.ex
    cases q : (upd (upd (upd (upd B h (.lst (ps.map V.int))) r (.lst (qs.map V.int))) l (.lst ts)) n (.ins C dx (nf h r l))) r with
    | some o => rw [← this _ _ q]; exact e3
    | none =>
      exfalso
      by_cases z1 : r = n
      · rw [z1, upd_same] at q; cases q
      by_cases z2 : r = l
      · rw [upd_ne z1, z2, upd_same] at q; cases q
      · rw [upd_ne z1, upd_ne z2, upd_same] at q; cases q
  · have := W5.ex
    cases q : (upd (upd (upd (upd B h (.lst (ps.map V.int))) r (.lst (qs.map V.int))) l (.lst ts)) n (.ins C dx (nf h r l))) l with
    | some o => rw [← this _ _ q]; exact e4
    | none =>
      exfalso
      by_cases z1 : l = n
      · rw [z1, upd_same] at q; cases q
      · rw [upd_ne z1, upd_same] at q; cases q
  · have nx : ∀ {p : Addr}, H3 p = none → x ≠ p := fun hp z => hk (by rw [z]; exact hp)
    rw [upd_ne (nx hn), upd_ne (nx l3), upd_ne (nx r3), upd_ne (nx h3)]
    exact hx
def rowD (r : Row) : PyData := .tuple [.int r.1, .int r.2.1, .int r.2.2]
theorem dp_rows {K : PySem.W.Frag} {B : Hp} : ∀ {ts : List V} {rs : List Row}, RowsAt B ts rs → DpAll K B ts (rs.map rowD)
  | _, _, .nil => .nil
  | _, _, .cons ⟨a, h1, h2⟩ t => .cons (by rw [h1]; exact .tup (SqT.of h2) (.cons (.int _) (.cons (.int _) (.cons (.int _) .nil)))) (dp_rows t)
theorem small_row {ps : List Int} {r : Row} (hP : Places ps) (h : RoadOk ps r) : Small (rowD r) 1 39 := by
  have b1 := hP.bd _ h.m1
  have b2 := hP.bd _ h.m2
  have c0 := h.c0
  have c1 := h.c1
  have k := small_tuple (k := 0) (L := 10) (ds := [.int r.1, .int r.2.1, .int r.2.2]) (fun d hd => by
    simp only [List.mem_cons, List.not_mem_nil, or_false] at hd
    rcases hd with rfl | rfl | rfl <;> exact small_int (by omega))
  exact k
theorem small_rows {ps : List Int} {rs : List Row} (hP : Places ps) (hR : Roads ps rs) : Small (.list (rs.map rowD)) 2 (12 * 41 + 3) := by
  have h := small_list (k := 1) (L := 39) (ds := rs.map rowD) (fun d hd => by
    obtain ⟨r, hr, rfl⟩ := List.mem_map.mp hd
    exact small_row hP (hR.ok r hr))
  refine h.mono (Nat.le_refl _) ?_
  rw [List.length_map]
  have := Nat.mul_le_mul_right 41 hR.len
  omega
def sp_law (K : PySem.W.Frag) : Sp := fun vs H Q _ => ∃ (a : Addr) (ns : List Int), vs = [.ref a] ∧ SqL K H a (ns.map V.int) ∧ ns.length ≤ 63 ∧ ∀ H', Q (.bl true) H'
theorem law_start (K : PySem.W.Frag) (H : Hp) (a : Addr) (ns : List Int) (hl : ns.length ≤ 63) (hS : SqL K H a (ns.map V.int)) : sp_law K [.ref a] H (fun v _ => v = .bl true) fun _ _ _ => False := ⟨a, ns, rfl, hS, hl, fun _ => rfl⟩
theorem rows_at {B : Hp} {ts : List V} {rs : List Row} {k : Nat} {r : Row} (h : RowsAt B ts rs) (hr : rs[k]? = some r) : ∃ a, ts[k]? = some (.ref a) ∧ B a = some (.tup (rowV r)) := by
  have hl := h.len
  have hk : k < ts.length := by
    have := (List.getElem?_eq_some_iff.mp hr).1
    omega
  obtain ⟨y, h1, a, h2, h3⟩ := paired_at h (List.getElem?_eq_getElem hk)
  rw [hr] at h1
  obtain rfl := Option.some.inj h1
  exact ⟨a, by rw [List.getElem?_eq_getElem hk, h2], h3⟩
end K03

set_option maxHeartbeats 2000000
namespace K03
open PySem PySem.Spec PyProof.Rows L2 Evl MyG
/-! ### all that is known beside the state -/
def beside (s c : Addr) (H : Hp) : Hp := fun a => if a = s ∨ a = c then none else H a
theorem beside_of {s c a : Addr} {H : Hp} (h1 : a ≠ s) (h2 : a ≠ c) : beside s c H a = H a := by
  unfold beside
  rw [if_neg (fun h => h.elim h1 h2)]
section
variable {s c a : Addr} {B H : Hp}
theorem Wd.less (W : Wd s c B H) : Ex B (beside s c H) ∧ Wd s c (beside s c H) H := by
  refine ⟨fun a o e => ?_, ⟨fun a o e => ?_, ?_, ?_, W.st⟩⟩
  · have h1 : a ≠ s := fun z => by rw [z, W.ns] at e; cases e
    have h2 : a ≠ c := fun z => by rw [z, W.nc] at e; cases e
    rw [beside_of h1 h2]
    exact W.ex _ _ e
  · unfold beside at e
    split at e
    · cases e
    · exact e
  · unfold beside
    rw [if_pos (Or.inl rfl)]
  · unfold beside
    rw [if_pos (Or.inr rfl)]
theorem Sta.tup_ne {xs : List V} (h : Sta s c H) (e : H a = some (.tup xs)) : a ≠ s ∧ a ≠ c := by
  obtain ⟨cells, i, j, h1, h2, _⟩ := h.ex
  exact ⟨fun z => (by rw [z, h1] at e; cases e), fun z => (by rw [z, h2] at e; cases e)⟩
theorem RowsAt.less (h : Sta s c H) : ∀ {ts : List V} {rs : List Row}, RowsAt H ts rs → RowsAt (beside s c H) ts rs
  | _, _, .nil => .nil
  | _, _, .cons ⟨a, h1, h2⟩ t => .cons ⟨a, h1, by rw [beside_of (h.tup_ne h2).1 (h.tup_ne h2).2]; exact h2⟩ (RowsAt.less h t)
end
theorem NetAt.mono {C n : Addr} {B B' : Hp} {ps qs : List Int} {rs : List Row} (e : Ex B B') (h : NetAt C B n ps qs rs) : NetAt C B' n ps qs rs :=
  ⟨let ⟨dx, h', r, l, ts, h1, h2, h3, h4, h5⟩ := h.ex; ⟨dx, h', r, l, ts, e _ _ h1, e _ _ h2, e _ _ h3, e _ _ h4, h5.mono e⟩, h.pm, h.so⟩
/-- a net is made -/
theorem net_new {s c : Addr} {B H : Hp} {C a b : Addr} {ps : List Int} {ts : List V} {rs : List Row} {Q : VK} (W : Wd s c B H) (ha : H a = some (.lst (ps.map V.int))) (hb : H b = some (.lst ts)) (hP : Places ps) (hR : Roads ps rs) (hrs : RowsAt B ts rs)
    (k : ∀ n B3 qs H', Ex B B3 → Wd s c B3 H' → NetAt C B3 n ps qs rs → Ex H H' → H n = none → Q (.ref n) H') (n dx : Addr) (hn : H n = none) (hdx : H dx = none) (ndx : dx ≠ n) :
    sp_init C [.ref n, .ref a, .ref b] (upd (upd H dx (.own n)) n (.ins C dx [])) (fun v H3 => v = .non ∧ Q (.ref n) H3) E0 := by
  have keep : ∀ {x : Addr} {o : HO}, H x = some o → (upd (upd H dx (.own n)) n (.ins C dx [])) x = some o := fun {x o} e => by
    rw [upd_ne (ne_of_none e hn), upd_ne (ne_of_none e hdx)]; exact e
  refine ⟨dx, n, a, b, ps, ts, rs, B, rfl, upd_same, fun x o e => keep (W.ex x o e), W.none_of hn, keep ha, keep hb, hP, hR, hrs, fun H' h r l qs frame hh hr hl e1 e2 e3 pm so e4 => ⟨rfl, ?_⟩⟩
  obtain ⟨B3, eB3, W3, hN, _, eH⟩ := net_made W hn hdx frame hh hr hl e1 e2 e3 pm so e4 hrs
  exact k n B3 qs H' eB3 W3 hN eH hn
theorem go_net {s c : Addr} {B H : Hp} {C a b : Addr} {ps : List Int} {ts : List V} {rs : List Row} {Q : VK} {σ : L2.St} {i j : Nat} (hi : σ[i]? = some (some (.ref a))) (hj : σ[j]? = some (some (.ref b))) (W : Wd s c B H) (ha : H a = some (.lst (ps.map V.int))) (hb : H b = some (.lst ts)) (hP : Places ps) (hR : Roads ps rs) (hrs : RowsAt B ts rs)
    (k : ∀ n B3 qs H', Ex B B3 → Wd s c B3 H' → NetAt C B3 n ps qs rs → Ex H H' → H n = none → Q (.ref n) H') : tMake C (sp_init C) [] E0 (tCons (tVar i) (tCons (tVar j) tNil)) σ H Q := ⟨_, hi, _, hj, net_new W ha hb hP hR hrs k⟩
theorem go_netL {s c : Addr} {B H : Hp} {C : Addr} {ps : List Int} {ts : List V} {rs : List Row} {Q : VK} {σ : L2.St} {ta tb : TE} (W : Wd s c B H) (ha : EvL ta σ H (ps.map V.int)) (hb : ∀ H1, Ex H H1 → EvL tb σ H1 ts) (hP : Places ps) (hR : Roads ps rs) (hrs : RowsAt B ts rs)
    (k : ∀ n B3 qs H', Ex B B3 → Wd s c B3 H' → NetAt C B3 n ps qs rs → Ex H H' → H n = none → Q (.ref n) H') : tMake C (sp_init C) [] E0 (tCons ta (tCons tb tNil)) σ H Q :=
  ha H (Ex.refl H) _ fun p H1 hp e1 h1 => hb H1 e1 H1 (Ex.refl H1) _ fun q H2 hq e2 h2 => net_new (W.ext (e1.trans e2)) (e2 _ _ h1) h2 hP hR hrs fun n B3 qs H' eB W3 hN e3 hn => k n B3 qs H' eB W3 hN ((e1.trans e2).trans e3) (fresh_back (e1.trans e2) hn)
theorem un_par2 {i j : Nat} {ta : TA} {D : Ends} {σ : L2.St} {H : Hp} (h : ta σ H fun vs H1 => ∃ u v, vs = [u, v] ∧ D.nx ((σ.set i (some u)).set j (some v)) H1) : tPar i j ta D σ H := h
end K03

set_option maxHeartbeats 2000000
namespace K03
open PySem PySem.Spec PyProof.Rows L2 Evl MyG
def sp_nhalls (C : Addr) : Sp := fun vs H Q _ => ∃ (n : Addr) (B : Hp) (ps qs : List Int) (rs : List Row), vs = [.ref n] ∧ Ex B H ∧ NetAt C B n ps qs rs ∧ ∀ p H', H p = none → H' = upd H p (.lst (qs.map V.int)) → Q (.ref p) H'
def sp_nlinks (C : Addr) : Sp := fun vs H Q _ => ∃ (n : Addr) (B : Hp) (ps qs : List Int) (rs : List Row), vs = [.ref n] ∧ Ex B H ∧ NetAt C B n ps qs rs ∧ ∀ p H' ts, H p = none → RowsAt B ts rs → H' = upd H p (.lst ts) → Q (.ref p) H'
def sp_nmost (C : Addr) : Sp := fun vs H Q _ => ∃ (n : Addr) (B : Hp) (ps qs : List Int) (rs : List Row), vs = [.ref n] ∧ Ex B H ∧ NetAt C B n ps qs rs ∧ rs.length ≤ 1000 ∧ ∀ H', Ex H H' → Q (.int (rs.map (·.2.2)).sum) H'
def sp_nlink (C : Addr) : Sp := fun vs H Q _ => ∃ (n : Addr) (B : Hp) (ps qs : List Int) (rs : List Row) (k : Nat) (r : Row), vs = [.ref n, .int (k : Int)] ∧ Ex B H ∧ NetAt C B n ps qs rs ∧ rs[k]? = some r ∧ rs.length ≤ 12 ∧ ∀ a H', Ex H H' → B a = some (.tup (rowV r)) → Q (.ref a) H'
def sp_ncost (C : Addr) : Sp := fun vs H Q _ => ∃ (n : Addr) (B : Hp) (ps qs : List Int) (rs : List Row) (k : Nat) (r : Row), vs = [.ref n, .int (k : Int)] ∧ Ex B H ∧ NetAt C B n ps qs rs ∧ rs[k]? = some r ∧ rs.length ≤ 12 ∧ ∀ H', Ex H H' → Q (.int r.2.2) H'
def sp_nbeyond (C : Addr) : Sp := fun vs H Q _ => ∃ (n : Addr) (B : Hp) (ps qs : List Int) (rs : List Row) (k : Nat) (r : Row) (h : Int), vs = [.ref n, .int (k : Int), .int h] ∧ Ex B H ∧ NetAt C B n ps qs rs ∧ rs[k]? = some r ∧ rs.length ≤ 12 ∧
  (h = r.1 ∨ h = r.2.1) ∧ ∀ H', Ex H H' → Q (.int (if h = r.1 then r.2.1 else r.1)) H'
def touch (rs : List Row) (h : Int) (k : Nat) : Bool := match rs[k]? with
  | some r => decide (r.1 = h) || decide (r.2.1 = h)
  | none => false
def doorsOf (rs : List Row) (h : Int) : List V := given rs.length (touch rs h) (fun k => .int (k : Nat))
def sp_ndoors (C : Addr) : Sp := fun vs H Q _ => ∃ (n : Addr) (B : Hp) (ps qs : List Int) (rs : List Row) (h : Int), vs = [.ref n, .int h] ∧ Ex B H ∧ NetAt C B n ps qs rs ∧ h ∈ qs ∧ rs.length ≤ 12 ∧ ∀ p H', H p = none → Ex H H' → H' p = some (.lst (doorsOf rs h)) → Q (.ref p) H'
section
variable {P : Program} {w : World} {K : PySem.W.Frag} {mg : Str → Option Value} {base : Heap}
theorem ok_nhalls (T : Tx K mg) : FnOk P w K mg base CX0 1 T.a_Net_halls T.d_Net_halls ["self"] (sp_nhalls T.c_Net) := by
  refine T.F_Net_halls.ok sc_Net_halls (fun vs H Q E h => ?_) (fun cdv A outer s H vs Q E hr h => ?_)
  · obtain ⟨_, _, _, _, _, rfl, _⟩ := h
    rfl
  · obtain ⟨n, B, ps, qs, rs, rfl, eB, hN, q⟩ := h
    refine ⟨_, (pss_one (ps_ret (pe_callTy (listK (K := K) rfl) (by rfl) T.z_list (by decide +kernel) (pa_cons (fldK (K := K) rfl (pv 0) rfl) pa_nil)))), ?_⟩
    obtain ⟨dx, h, r, l, ts, hn, hh, hr1, hl, hrs⟩ := hN.ex
    refine ⟨_, rfl, n, T.c_Net, dx, _, _, rfl, eB _ _ hn, T.cl_Net, T.n_Net__rising, nf_r _ _ _, r, _, rfl, .inl (SqL.of (eB _ _ hr1)), fun p hp => q p _ hp rfl⟩
theorem ok_nlinks (T : Tx K mg) : FnOk P w K mg base CX0 1 T.a_Net_links T.d_Net_links ["self"] (sp_nlinks T.c_Net) := by
  refine T.F_Net_links.ok sc_Net_links (fun vs H Q E h => ?_) (fun cdv A outer s H vs Q E hr h => ?_)
  · obtain ⟨_, _, _, _, _, rfl, _⟩ := h
    rfl
  · obtain ⟨n, B, ps, qs, rs, rfl, eB, hN, q⟩ := h
    refine ⟨_, (pss_one (ps_ret (pe_callTy (listK (K := K) rfl) (by rfl) T.z_list (by decide +kernel) (pa_cons (fldK (K := K) rfl (pv 0) rfl) pa_nil)))), ?_⟩
    obtain ⟨dx, h, r, l, ts, hn, hh, hr1, hl, hrs⟩ := hN.ex
    refine ⟨_, rfl, n, T.c_Net, dx, _, _, rfl, eB _ _ hn, T.cl_Net, T.n_Net__links, nf_l _ _ _, l, _, rfl, .inl (SqL.of (eB _ _ hl)), fun p hp => q p _ ts hp hrs rfl⟩
theorem ok_nlink (T : Tx K mg) : FnOk P w K mg base CX0 2 T.a_Net__link T.d_Net__link ["self", "link"] (sp_nlink T.c_Net) := by
  have G_is_number := ok_isnum (P := P) (w := w) (base := base) T
  refine T.F_Net__link.ok sc_Net__link (fun vs H Q E h => ?_) (fun cdv A outer s H vs Q E hr h => ?_)
  · obtain ⟨_, _, _, _, _, _, _, rfl, _⟩ := h
    rfl
  · obtain ⟨n, B, ps, qs, rs, k, r, rfl, eB, hN, hk, h12, q⟩ := h
    refine ⟨_, (pss_cons (ps_if (PW.pt (pw_or (pt_not (pt_val (pe_call G_is_number (hr.mono (by decide)) (by rfl) T.g_is_number T.F_is_number.kp T.b_is_number .nil pass0 (pa_cons (pv 1) pa_nil)))) (pw_or1 (pt_not (pt_chain op_le op_lt pe_int (pv 1) (pe_callB (lenK (K := K) rfl) (by rfl) T.z_len (by decide +kernel) (pa_cons (fldK (K := K) rfl (pv 0) rfl) pa_nil))))))) (pss_one ps_never) pss_nil)
  (pss_one (ps_ret (pe_ix (ix_listK (K := K) rfl) (fldK (K := K) rfl (pv 0) rfl) (pv 1) (fun _ _ => rfl))))), ?_⟩
    obtain ⟨dx, h, r', l, ts, hn, hh, hr1, hl, hrs⟩ := hN.ex
    have hlen := hrs.len
    have hk1 := (List.getElem?_eq_some_iff.mp hk).1
    obtain ⟨a, ha1, ha2⟩ := rows_at hrs hk
    -- not is_number(link) or not 0 <= link < len(self._links)
    refine ⟨_, rfl, _, "int", rfl, .int _, _, rfl, ?_⟩
    refine iteF ⟨_, rfl, 0, k, rfl, rfl, _, rfl, ?_⟩
    rw [decide_eq_true (show (0 : Int) ≤ (k : Int) by omega)]
    refine iteT ⟨_, rfl, n, T.c_Net, dx, _, _, rfl, eB _ _ hn, T.cl_Net, T.n_Net__links, nf_l _ _ _, l, _, rfl, .inl (SqL.of (eB _ _ hl)), k, _, rfl, rfl, _, rfl, ?_⟩
    rw [decide_eq_true (show (k : Int) < (ts.length : Int) by omega)]
    refine iteF ?_
    refine ⟨_, rfl, n, T.c_Net, dx, _, _, rfl, eB _ _ hn, T.cl_Net, T.n_Net__links, nf_l _ _ _, _, rfl, l, _, k, _, rfl, rfl, SqL.of (eB _ _ hl), atI_nat ha1, q a _ (Ex.refl _) ha2⟩
theorem ok_ncost (T : Tx K mg) : FnOk P w K mg base CX0 3 T.a_Net_cost T.d_Net_cost ["self", "link"] (sp_ncost T.c_Net) := by
  have G_Net__link := ok_nlink (P := P) (w := w) (base := base) T
  refine T.F_Net_cost.ok sc_Net_cost (fun vs H Q E h => ?_) (fun cdv A outer s H vs Q E hr h => ?_)
  · obtain ⟨_, _, _, _, _, _, _, rfl, _⟩ := h
    rfl
  · obtain ⟨n, B, ps, qs, rs, k, r, rfl, eB, hN, hk, h12, q⟩ := h
    refine ⟨_, (pss_one (ps_ret (pe_ix (ix_tupK (K := K) rfl) (pe_meth (pv 0) T.cl_Net T.me_Net__link G_Net__link (hr.mono (by decide)) T.b_Net__link .nil pass0 (pa_cons (pv 1) pa_nil)) pe_int (fun _ _ => rfl)))), ?_⟩
    obtain ⟨dx, h, r', l, ts, hn, hh, hr1, hl, hrs⟩ := id hN.ex
    refine ⟨_, rfl, n, dx, _, rfl, eB _ _ hn, nf_no _ _ _ (by decide +kernel) (by decide +kernel) (by decide +kernel), _, rfl, n, B, ps, qs, rs, k, r, rfl, eB, hN, hk, h12, fun a H' e ha => ?_⟩
    exact ⟨a, _, 2, _, rfl, rfl, SqT.of (e _ _ (eB _ _ ha)), atI_nat (j := 2) rfl, q H' e⟩
theorem ok_nbeyond (T : Tx K mg) : FnOk P w K mg base CX0 3 T.a_Net_beyond T.d_Net_beyond ["self", "link", "hall"] (sp_nbeyond T.c_Net) := by
  have G_Net__link := ok_nlink (P := P) (w := w) (base := base) T
  have G_is_number := ok_isnum (P := P) (w := w) (base := base) T
  refine T.F_Net_beyond.ok sc_Net_beyond (fun vs H Q E h => ?_) (fun cdv A outer s H vs Q E hr h => ?_)
  · obtain ⟨_, _, _, _, _, _, _, _, rfl, _⟩ := h
    rfl
  · obtain ⟨n, B, ps, qs, rs, k, r, h, rfl, eB, hN, hk, h12, hor, q⟩ := h
    refine ⟨_, (pss_cons (ps_asg (pe_meth (pv 0) T.cl_Net T.me_Net__link G_Net__link (hr.mono (by decide)) T.b_Net__link .nil pass0 (pa_cons (pv 1) pa_nil)) (pg_tup rfl (pgs_cons (pg_name (i := 3) sc_Net_beyond.nd rfl (Or.inl rfl)) (pgs_cons (pg_name (i := 4) sc_Net_beyond.nd rfl (Or.inl rfl)) (pgs_cons (pg_name (i := 5) sc_Net_beyond.nd rfl (Or.inl rfl)) pgs_nil)))))
  (pss_cons (ps_if (PW.pt (pw_or (pt_not (pt_val (pe_call G_is_number (hr.mono (by decide)) (by rfl) T.g_is_number T.F_is_number.kp T.b_is_number .nil pass0 (pa_cons (pv 2) pa_nil)))) (pw_or1 (pt_cmpR (op_niK (K := K) rfl) (pv 2) (pe_tup (pa_cons (pv 3) (pa_cons (pv 4) pa_nil))) (by rfl))))) (pss_one ps_never) pss_nil)
  (pss_one (ps_ret (pe_ifExp (pt_cmpR op_eq (pv 2) (pv 3) (nomark _)) (pv 4) (pv 3)))))), ?_⟩
    obtain ⟨dx, hx, r', l, ts, hn, hh, hr1, hl, hrs⟩ := id hN.ex
    refine ⟨_, rfl, n, dx, _, rfl, eB _ _ hn, nf_no _ _ _ (by decide +kernel) (by decide +kernel) (by decide +kernel), _, rfl, n, B, ps, qs, rs, k, r, rfl, eB, hN, hk, h12, fun a H1 e ha => ?_⟩
    refine ⟨a, _, rfl, SqT.of (e _ _ (eB _ _ ha)), rfl, _, _, rfl, _, _, rfl, _, _, rfl, rfl, ?_⟩
    -- not is_number(hall) or hall not in (one, other)
    refine ⟨_, rfl, _, "int", rfl, .int _, _, rfl, ?_⟩
    refine iteF ⟨_, rfl, _, rfl, _, rfl, by show 2 ≤ sizeLine; decide, fun p hp => ⟨p, _, rfl, .inr (SqT.of upd_same), rfl, rfl, _, rfl, ?_⟩⟩
    have ein : inV (.int h) [.int r.1, .int r.2.1] = true := by
      rw [show ([V.int r.1, .int r.2.1] : List V) = [r.1, r.2.1].map V.int from rfl, inV_ints]
      refine decide_eq_true ?_
      rcases hor with z | z <;> simp [z]
    rw [ein]
    refine iteF ?_
    have z := q _ (e.trans (Ex.new (o := .tup [.int r.1, .int r.2.1]) hp))
    refine ⟨_, rfl, _, rfl, rfl, _, rfl, ?_⟩
    have ed : decide (V.int h = V.int r.1) = decide (h = r.1) := decide_eq_decide.mpr ⟨fun e => V.int.inj e, fun e => by rw [e]⟩
    rw [ed]
    by_cases c : h = r.1
    · rw [decide_eq_true c]
      rw [if_pos c] at z
      exact iteT ⟨_, rfl, z⟩
    · rw [decide_eq_false c]
      rw [if_neg c] at z
      exact iteF ⟨_, rfl, z⟩
end
end K03

set_option maxHeartbeats 2000000
namespace K03
open PySem PySem.Spec PyProof.Rows L2 Evl MyG
/-! ### a comprehension over enumerate(list) -/
theorem lc_enum {K : PySem.W.Frag} {a : Addr} {xs : List V} {g : TG} {tt : TT} {te : TE} {vs : List Nat} {σ : L2.St} {H1 : Hp} {D : Addr} {Qd : Hp → Prop} (Pv : Nat → Hp → Prop) (h0 : Pv 0 (upd H1 D (.lst []))) (hl : ∀ i H, i ≤ xs.length → Pv i H → SqL K H a xs)
    (hs : ∀ i x T H, xs[i]? = some x → Pv i H → H T = none → g (.ref T) (wipe σ vs) (upd H T (.tup [.int (i : Nat), x])) fun σ2 H2 => wipe σ2 vs = wipe σ vs ∧ tt σ2 H2 fun b H3 =>
      if b = true then te σ2 H3 fun y H4 => ∃ acc, H4 D = some (.lst acc) ∧ acc.length < sizeLine ∧ Pv (i + 1) (upd H4 D (.lst (acc ++ [y]))) else Pv (i + 1) H3) (hd : ∀ H, Pv xs.length H → Qd H) :
    ∃ W : Nat → Nat → Hp → Prop, (∃ m, W 0 m (upd H1 D (.lst []))) ∧ ∀ i m H, W i m H →
      ((Ite K a).stop i H ∧ Qd H) ∨ ((Ite K a).go i H ∧ ∃ Nx : Hp → Prop, (∀ H', Nx H' → ∃ m', m' < m ∧ W (i + 1) m' H') ∧ ∀ x H', (Ite K a).yld i H x H' → g x (wipe σ vs) H' fun σ2 H2 => wipe σ2 vs = wipe σ vs ∧ tt σ2 H2 fun b H3 =>
        if b = true then te σ2 H3 fun y H4 => ∃ acc, H4 D = some (.lst acc) ∧ acc.length < sizeLine ∧ Nx (upd H4 D (.lst (acc ++ [y]))) else Nx H3) := by
  refine ⟨fun i m H => i + m = xs.length ∧ Pv i H, ⟨xs.length, Nat.zero_add _, h0⟩, fun i m H hw => ?_⟩
  obtain ⟨hm, p⟩ := hw
  have q := hl i H (by omega) p
  cases m with
  | zero =>
    have e : i = xs.length := by omega
    exact Or.inl ⟨⟨xs, q, by omega⟩, hd H (e ▸ p)⟩
  | succ m =>
    have hlt : i < xs.length := by omega
    refine Or.inr ⟨⟨xs, xs[i], q, List.getElem?_eq_getElem hlt⟩, Pv (i + 1), fun H' p' => ⟨m, by omega, by omega, p'⟩, ?_⟩
    rintro v H' ⟨U, x, rfl, hU, rfl, hx⟩
    exact hs i x U H (hx xs q) p hU
def sp_beyondL (K : PySem.W.Frag) : Sp := fun vs H Q _ => ∃ (a : Addr) (r : Row) (h : Int), vs = [.ref a, .int h] ∧ H a = some (.tup (rowV r)) ∧ Q (.int (if r.1 = h then r.2.1 else r.1)) H
section
variable {P : Program} {w : World} {K : PySem.W.Frag} {mg : Str → Option Value} {base : Heap}
theorem ok_ndoors (T : Tx K mg) : FnOk P w K mg base CX0 2 T.a_Net_doors T.d_Net_doors ["self", "hall"] (sp_ndoors T.c_Net) := by
  have G_is_number := ok_isnum (P := P) (w := w) (base := base) T
  refine T.F_Net_doors.ok sc_Net_doors (fun vs H Q E h => ?_) (fun cdv A outer s H vs Q E hr h => ?_)
  · obtain ⟨_, _, _, _, _, _, rfl, _⟩ := h
    rfl
  · obtain ⟨n, B, ps, qs, rs, h, rfl, eB, hN, hin, h12, q⟩ := h
    refine ⟨_, (pss_cons (ps_if (PW.pt (pw_or (pt_not (pt_val (pe_call G_is_number (hr.mono (by decide)) (by rfl) T.g_is_number T.F_is_number.kp T.b_is_number .nil pass0 (pa_cons (pv 1) pa_nil)))) (pw_or1 (pt_cmpR (op_niK (K := K) rfl) (pv 1) (fldK (K := K) rfl (pv 0) rfl) (by rfl))))) (pss_one ps_never) pss_nil)
  (pss_one (ps_ret (pe_lc (own := [("link", 2), ("one", 3), ("other", 4), ("_", 5)]) (g := (gTup K 2 (gCons (gName 2) (gCons (gTup K 3 (gCons (gName 3) (gCons (gName 4) (gCons (gName 5) gNil)))) gNil)))) rfl sc_Net_doors.nd (pi_enum (by rfl) T.z_enumerate (pa_cons (fldK (K := K) rfl (pv 0) rfl) pa_nil)) (blkOk_by (N := n_Net_doors) (sc := defScope s_Net_doors) (by decide +kernel)) (fun _ _ _ _ _ => (pg_tup rfl (pgs_cons (pg_name (i := 2) sc_Net_doors.nd rfl (Or.inl rfl)) (pgs_cons (pg_tup rfl (pgs_cons (pg_name (i := 3) sc_Net_doors.nd rfl (Or.inl rfl)) (pgs_cons (pg_name (i := 4) sc_Net_doors.nd rfl (Or.inl rfl)) (pgs_cons (pg_name (i := 5) sc_Net_doors.nd rfl (Or.inl rfl)) pgs_nil)))) pgs_nil)))) (fun _ _ _ _ _ => (pts_one (pt_cmpR (op_inK (K := K) rfl) (pv 1) (pe_tup (pa_cons (pv 3) (pa_cons (pv 4) pa_nil))) (by rfl)))) (fun _ _ _ _ _ => (pv 2)))))), ?_⟩
    obtain ⟨dx, hh, r', l, ts, hn, hh1, hr1, hl, hrs⟩ := id hN.ex
    have hlen := hrs.len
    -- not is_number(hall) or hall not in self._rising
    refine ⟨_, rfl, _, "int", rfl, .int _, _, rfl, ?_⟩
    refine iteF ⟨_, rfl, _, rfl, n, T.c_Net, dx, _, _, rfl, eB _ _ hn, T.cl_Net, T.n_Net__rising, nf_r _ _ _, r', _, rfl, .inl (SqL.of (eB _ _ hr1)), rfl, flat_ints qs, _, rfl, ?_⟩
    rw [inV_ints, decide_eq_true hin]
    refine iteF ?_
    -- the comprehension
    refine ⟨_, rfl, n, T.c_Net, dx, _, _, rfl, eB _ _ hn, T.cl_Net, T.n_Net__links, nf_l _ _ _, l, ts, rfl, SqL.of (eB _ _ hl), fun D hD => ?_⟩
    refine lc_enum (xs := ts) (fun i H' => Ex H H' ∧ H' D = some (.lst (given i (touch rs h) (fun k => .int (k : Nat))))) ⟨Ex.new hD, upd_same⟩ (fun i H' _ p => SqL.of (p.1 _ _ (eB _ _ hl))) (fun i x U H' hx p hU => ?_) (fun H' p => ?_)
    · obtain ⟨r, hr0, a, rfl, ha⟩ := paired_at hrs hx
      have hi := (List.getElem?_eq_some_iff.mp hr0).1
      have e1 := Ex.new (o := .tup [.int (i : Nat), .ref a]) hU
      have hD1 := e1 _ _ p.2
      have ha1 := e1 _ _ (p.1 _ _ (eB _ _ ha))
      refine ⟨U, _, rfl, SqT.of upd_same, rfl, _, _, rfl, _, _, rfl, ⟨a, _, rfl, SqT.of ha1, rfl, _, _, rfl, _, _, rfl, _, _, rfl, rfl, rfl, rfl, ?_⟩⟩
      -- hall in (one, other)
      refine ⟨_, rfl, _, rfl, _, rfl, by show 2 ≤ sizeLine; decide, fun u hu => ⟨u, _, rfl, .inr (SqT.of upd_same), rfl, rfl, _, rfl, ?_⟩⟩
      have e2 := Ex.new (o := .tup [.int r.1, .int r.2.1]) hu
      have hD2 := e2 _ _ hD1
      have ein : inV (.int h) [.int r.1, .int r.2.1] = touch rs h i := by
        rw [show ([V.int r.1, .int r.2.1] : List V) = [r.1, r.2.1].map V.int from rfl, inV_ints]
        unfold touch
        rw [hr0]
        show decide (h ∈ [r.1, r.2.1]) = (decide (r.1 = h) || decide (r.2.1 = h))
        by_cases c1 : r.1 = h
        · simp [c1]
        · by_cases c2 : r.2.1 = h
          · simp [c2]
          · have c1' : ¬ h = r.1 := fun e => c1 e.symm
            have c2' : ¬ h = r.2.1 := fun e => c2 e.symm
            simp [c1, c2, c1', c2']
      rw [ein]
      cases ht : touch rs h i with
      | true =>
        refine iteT ⟨_, rfl, _, hD2, ?_, (p.1.trans (e1.trans e2)).mut hD, ?_⟩
        · exact sz_lt (by have := given_len i (touch rs h) (fun k => V.int (k : Nat)); omega)
        · rw [given_yes ht]
          exact upd_same
      | false =>
        refine iteF ⟨p.1.trans (e1.trans e2), ?_⟩
        rw [given_no ht]
        exact hD2
    · refine q D H' hD p.1 ?_
      unfold doorsOf
      rw [← hlen]
      exact p.2
end
end K03

set_option maxHeartbeats 2000000
namespace K03
open PySem PySem.Spec PyProof.Rows L2 Evl MyG
/-- a promise of nothing -/
theorem fn_none {P : Program} {w : World} {K : PySem.W.Frag} {mg : Str → Option Value} {base : Heap} {f : Addr} {fd : FuncData} {ps : List Str} : FnOk P w K mg base CX0 0 f fd ps (fun _ _ _ _ => False) :=
  ⟨fun _ _ _ _ h => h.elim, fun _ _ _ _ _ _ _ _ _ _ _ _ _ h => h.elim⟩
/-- flat things are handed back -/
def sp_keptF : Sp := fun vs H Q _ => ∃ (x : V) (d : Int), vs = [x, .int d] ∧ (∃ t, AnyT H x t ∧ t ≠ "list" ∧ t ≠ "tuple" ∧ t ≠ "dict") ∧ Q x H
section
variable {P : Program} {w : World} {K : PySem.W.Frag} {mg : Str → Option Value} {base : Heap}
theorem ok_keptF (T : Tx K mg) : FnOk P w K mg base CX0 1 T.a_kept T.d_kept ["thing", "deep"] sp_keptF := by
  have G_kept := fn_none (P := P) (w := w) (K := K) (mg := mg) (base := base) (f := T.a_kept) (fd := T.d_kept) (ps := ["thing", "deep"])
  refine T.F_kept.ok sc_kept (fun vs H Q E h => ?_) (fun cdv A outer s H vs Q E hr h => ?_)
  · obtain ⟨_, _, rfl, _⟩ := h
    rfl
  · obtain ⟨x, d, rfl, ⟨t, ht, n1, n2, n3⟩, q⟩ := h
    refine ⟨_, ((pss_cons (ps_if (pt_cmpR op_eq (pv 1) pe_int (nomark _)) (pss_one (ps_ret (pv 0))) pss_nil)
  (pss_cons (ps_if (pt_val (pe_callB (isiK (K := K) rfl) (by rfl) T.z_isinstance (by decide +kernel) (pa_cons (pv 0) (pa_cons (pe_bltn (v := .ty "list") (by rfl) T.z_list (by decide +kernel) rfl) pa_nil)))) (pss_one (ps_ret (pe_lc (own := [("part", 2)]) (g := (gName 2)) (tt := tYes) rfl sc_kept.nd (iListK (K := K) rfl (pv 0)) (blkOk_by (N := n_kept) (sc := defScope s_kept) (by decide +kernel)) (fun _ _ _ _ _ => (pg_name (i := 2) sc_kept.nd rfl (Or.inl rfl))) (fun _ _ _ _ _ => pts_nil) (fun _ _ _ _ _ => (pe_call G_kept hr (by rfl) T.g_kept T.F_kept.kp T.b_kept .nil pass0 (pa_cons (pv 2) (pa_cons (pe_op op_sub (pv 1) pe_int) pa_nil))))))) pss_nil)
  (pss_cons (ps_if (pt_val (pe_callB (isiK (K := K) rfl) (by rfl) T.z_isinstance (by decide +kernel) (pa_cons (pv 0) (pa_cons (pe_bltn (v := .ty "tuple") (by rfl) T.z_tuple (by decide +kernel) rfl) pa_nil)))) (pss_one (ps_ret (pe_callTy (tupleK (K := K) rfl) (by rfl) T.z_tuple (by decide +kernel) (pa_cons (pe_lc (own := [("part", 2)]) (g := (gName 2)) (tt := tYes) rfl sc_kept.nd (iListK (K := K) rfl (pv 0)) (blkOk_by (N := n_kept) (sc := defScope s_kept) (by decide +kernel)) (fun _ _ _ _ _ => (pg_name (i := 2) sc_kept.nd rfl (Or.inl rfl))) (fun _ _ _ _ _ => pts_nil) (fun _ _ _ _ _ => (pe_call G_kept hr (by rfl) T.g_kept T.F_kept.kp T.b_kept .nil pass0 (pa_cons (pv 2) (pa_cons (pe_op op_sub (pv 1) pe_int) pa_nil))))) pa_nil)))) pss_nil)
  (pss_cons (ps_if (pt_val (pe_callB (isiK (K := K) rfl) (by rfl) T.z_isinstance (by decide +kernel) (pa_cons (pv 0) (pa_cons (pe_bltn (v := .ty "dict") (by rfl) T.z_dict (by decide +kernel) rfl) pa_nil)))) (pss_one ps_never) pss_nil)
  (pss_one (ps_ret (pv 0))))))) : PSs _ _ _).nox, ?_⟩
    refine ⟨_, rfl, rfl, _, rfl, ite2 (fun _ => ⟨_, rfl, q⟩) (fun _ => ?_)⟩
    refine ⟨_, rfl, _, .ty "list", _, .type "list", _, rfl, .ty _, ht.ty, kit_ty (kit_all ht.mem).2.2.1, _, rfl, ?_⟩
    rw [beq_eq_false_iff_ne.mpr n1]
    refine iteF ⟨_, rfl, _, .ty "tuple", _, .type "tuple", _, rfl, .ty _, ht.ty, kit_ty (kit_all ht.mem).2.2.2.1, _, rfl, ?_⟩
    rw [beq_eq_false_iff_ne.mpr n2]
    refine iteF ⟨_, rfl, _, .ty "dict", _, .type "dict", _, rfl, .ty _, ht.ty, kit_ty (kit_all ht.mem).2.2.2.2.2, _, rfl, ?_⟩
    rw [beq_eq_false_iff_ne.mpr n3]
    exact iteF ⟨_, rfl, q⟩
end
/-- flat, by its kind -/
def Flat (H : Hp) (x : V) : Prop := ∃ t, AnyT H x t ∧ t ≠ "list" ∧ t ≠ "tuple" ∧ t ≠ "dict"
theorem Flat.ext {H H' : Hp} {x : V} (e : Ex H H') (h : Flat H x) : Flat H' x := let ⟨t, a, b⟩ := h; ⟨t, a.ext e, b⟩
/-- a flat thing, or a list or tuple of such: copied one layer deep -/
def sp_kept : Sp := fun vs H Q _ => ∃ (x : V) (d : Int), vs = [x, .int d] ∧ 0 < d ∧ ((Flat H x ∧ Q x H) ∨
  (∃ a xs, x = .ref a ∧ H a = some (.lst xs) ∧ xs.length ≤ 1000 ∧ (∀ y ∈ xs, Flat H y) ∧ ∀ p H', H p = none → Ex H H' → H' p = some (.lst xs) → Q (.ref p) H') ∨
  (∃ a xs, x = .ref a ∧ H a = some (.tup xs) ∧ xs.length ≤ 1000 ∧ (∀ y ∈ xs, Flat H y) ∧ ∀ p H', H p = none → Ex H H' → H' p = some (.tup xs) → Q (.ref p) H') ∨
  ∃ a kvs, x = .ref a ∧ H a = some (.dK kvs) ∧ kvs.length ≤ 1000 ∧ (kvs.map (·.1)).Nodup ∧ (∀ kv ∈ kvs, Flat H kv.2) ∧ ∀ p H', H p = none → Ex H H' → H' p = some (.dK kvs) → Q (.ref p) H')
theorem Flat.any {H H' : Hp} {x : V} (h : Flat H x) : Flat H' x := by
  obtain ⟨t, a, n1, n2, n3⟩ := h
  cases a with
  | non => exact ⟨_, .non, by decide, by decide, by decide⟩
  | bl b => exact ⟨_, .bl b, by decide, by decide, by decide⟩
  | int i => exact ⟨_, .int i, by decide, by decide, by decide⟩
  | str z => exact ⟨_, .str z, by decide, by decide, by decide⟩
  | lst h => exact absurd rfl n1
  | tup h => exact absurd rfl n2
  | dK h => exact absurd rfl n3
/-- a dict's comprehension over anything -/
theorem dc_it {J : It} {n : Nat} {G : Hp → Prop} {Y : Nat → Hp → V → Hp → Prop} (w : Walk J n G Y) {g : TG} {tt : TT} {tk tv : TE} {vs : List Nat} {σ : L2.St} {H1 : Hp} {D : Addr} {Qd : Hp → Prop} (Pv : Nat → Hp → Prop) (h0 : Pv 0 (upd H1 D (.dK []))) (hG : ∀ i H, i ≤ n → Pv i H → G H)
    (hs : ∀ i x H H', i < n → Pv i H → Y i H x H' → g x (wipe σ vs) H' fun σ2 H2 => wipe σ2 vs = wipe σ vs ∧ tt σ2 H2 fun b H3 =>
      if b = true then tk σ2 H3 fun y H4 => tv σ2 H4 fun z H5 => ∃ kvs k, y = kV k ∧ H5 D = some (.dK kvs) ∧ kvs.length < sizeLine ∧ Pv (i + 1) (upd H5 D (.dK (putK kvs k z))) else Pv (i + 1) H3) (hd : ∀ H, Pv n H → Qd H) :
    ∃ W : Nat → Nat → Hp → Prop, (∃ m, W 0 m (upd H1 D (.dK []))) ∧ ∀ i m H, W i m H →
      (J.stop i H ∧ Qd H) ∨ (J.go i H ∧ ∃ Nx : Hp → Prop, (∀ H', Nx H' → ∃ m', m' < m ∧ W (i + 1) m' H') ∧ ∀ x H', J.yld i H x H' → g x (wipe σ vs) H' fun σ2 H2 => wipe σ2 vs = wipe σ vs ∧ tt σ2 H2 fun b H3 =>
        if b = true then tk σ2 H3 fun y H4 => tv σ2 H4 fun z H5 => ∃ kvs k, y = kV k ∧ H5 D = some (.dK kvs) ∧ kvs.length < sizeLine ∧ Nx (upd H5 D (.dK (putK kvs k z))) else Nx H3) := by
  refine ⟨fun i m H => m = n - i ∧ i ≤ n ∧ Pv i H, ⟨n, by simp, Nat.zero_le _, h0⟩, ?_⟩
  rintro i m H ⟨rfl, hi, p⟩
  have q := hG i H hi p
  by_cases hlt : i < n
  · exact .inr ⟨w.goes i H hlt q, Pv (i + 1), fun H' p' => ⟨n - (i + 1), by omega, rfl, hlt, p'⟩, fun x H' y => hs i x H H' hlt p (w.yields i H x H' hlt q y)⟩
  · have e : i = n := by omega
    subst e
    exact .inl ⟨w.stops H q, hd H p⟩
/-- what stands before a key isn't it -/
theorem val_before {kvs : List (Key × V)} {i : Nat} {k : Key} {v : V} (hn : (kvs.map (·.1)).Nodup) (hi : kvs[i]? = some (k, v)) : valV (kvs.take i) k = none := by
  unfold valV
  rw [Option.map_eq_none_iff, List.find?_eq_none]
  intro kv hm he
  have he : kv.1 = k := of_decide_eq_true he
  obtain ⟨j, hj⟩ := List.mem_iff_getElem?.mp hm
  have hji : j < i := by
    have := (List.getElem?_eq_some_iff.mp hj).1
    rw [List.length_take] at this
    omega
  rw [List.getElem?_take_of_lt hji] at hj
  have hil := (List.getElem?_eq_some_iff.mp hi).1
  have z : j = i := (List.getElem?_inj (l := kvs.map (·.1)) (by rw [List.length_map]; omega) hn).mp (by rw [List.getElem?_map, List.getElem?_map, hi, hj]; exact congrArg some he)
  omega
/-- what a key's value is -/
theorem val_at {kvs : List (Key × V)} {i : Nat} {k : Key} {v : V} (hn : (kvs.map (·.1)).Nodup) (hi : kvs[i]? = some (k, v)) : valV kvs k = some v := by
  unfold valV
  cases h : kvs.find? fun kv => decide (kv.1 = k) with
  | none =>
    have := List.find?_eq_none.mp h (k, v) (List.mem_of_getElem? hi)
    exact absurd (decide_eq_true rfl) this
  | some kv =>
    have he := List.find?_some h
    have he : kv.1 = k := of_decide_eq_true he
    obtain ⟨j, hj⟩ := List.mem_iff_getElem?.mp (List.mem_of_find?_eq_some h)
    have hjl := (List.getElem?_eq_some_iff.mp hj).1
    have z : j = i := (List.getElem?_inj (l := kvs.map (·.1)) (by rw [List.length_map]; omega) hn).mp (by rw [List.getElem?_map, List.getElem?_map, hi, hj]; exact congrArg some he)
    subst z
    rw [hi] at hj
    rw [← Option.some.inj hj]
    rfl
section
variable {P : Program} {w : World} {K : PySem.W.Frag} {mg : Str → Option Value} {base : Heap}
theorem ok_kept (T : Tx K mg) : FnOk P w K mg base CX0 2 T.a_kept T.d_kept ["thing", "deep"] sp_kept := by
  have G_kept := ok_keptF (P := P) (w := w) (base := base) T
  refine T.F_kept.ok sc_kept (fun vs H Q E h => ?_) (fun cdv A outer s H vs Q E hr h => ?_)
  · obtain ⟨_, _, rfl, _⟩ := h
    rfl
  · obtain ⟨x, d, rfl, hd, hc⟩ := h
    have hd0 : ¬ V.int d = V.int 0 := fun e => by
      have := V.int.inj e
      omega
    rcases hc with ⟨⟨t, ht, n1, n2, n3⟩, q⟩ | ⟨a, xs, rfl, ha, hl, hf, q⟩ | ⟨a, xs, rfl, ha, hl, hf, q⟩ | ⟨a, kvs, rfl, ha, hl, hn, hf, q⟩
    · refine ⟨_, ((pss_cons (ps_if (pt_cmpR op_eq (pv 1) pe_int (nomark _)) (pss_one (ps_ret (pv 0))) pss_nil)
  (pss_cons (ps_if (pt_val (pe_callB (isiK (K := K) rfl) (by rfl) T.z_isinstance (by decide +kernel) (pa_cons (pv 0) (pa_cons (pe_bltn (v := .ty "list") (by rfl) T.z_list (by decide +kernel) rfl) pa_nil)))) (pss_one (ps_ret (pe_lc (own := [("part", 2)]) (g := (gName 2)) (tt := tYes) rfl sc_kept.nd (iListK (K := K) rfl (pv 0)) (blkOk_by (N := n_kept) (sc := defScope s_kept) (by decide +kernel)) (fun _ _ _ _ _ => (pg_name (i := 2) sc_kept.nd rfl (Or.inl rfl))) (fun _ _ _ _ _ => pts_nil) (fun _ _ _ _ _ => (pe_call G_kept hr (by rfl) T.g_kept T.F_kept.kp T.b_kept .nil pass0 (pa_cons (pv 2) (pa_cons (pe_op op_sub (pv 1) pe_int) pa_nil))))))) pss_nil)
  (pss_cons (ps_if (pt_val (pe_callB (isiK (K := K) rfl) (by rfl) T.z_isinstance (by decide +kernel) (pa_cons (pv 0) (pa_cons (pe_bltn (v := .ty "tuple") (by rfl) T.z_tuple (by decide +kernel) rfl) pa_nil)))) (pss_one (ps_ret (pe_callTy (tupleK (K := K) rfl) (by rfl) T.z_tuple (by decide +kernel) (pa_cons (pe_lc (own := [("part", 2)]) (g := (gName 2)) (tt := tYes) rfl sc_kept.nd (iListK (K := K) rfl (pv 0)) (blkOk_by (N := n_kept) (sc := defScope s_kept) (by decide +kernel)) (fun _ _ _ _ _ => (pg_name (i := 2) sc_kept.nd rfl (Or.inl rfl))) (fun _ _ _ _ _ => pts_nil) (fun _ _ _ _ _ => (pe_call G_kept hr (by rfl) T.g_kept T.F_kept.kp T.b_kept .nil pass0 (pa_cons (pv 2) (pa_cons (pe_op op_sub (pv 1) pe_int) pa_nil))))) pa_nil)))) pss_nil)
  (pss_cons (ps_if (pt_val (pe_callB (isiK (K := K) rfl) (by rfl) T.z_isinstance (by decide +kernel) (pa_cons (pv 0) (pa_cons (pe_bltn (v := .ty "dict") (by rfl) T.z_dict (by decide +kernel) rfl) pa_nil)))) (pss_one ps_never) pss_nil)
  (pss_one (ps_ret (pv 0))))))) : PSs _ _ _).nox, ?_⟩
      refine ⟨_, rfl, rfl, _, rfl, ite2 (fun _ => ⟨_, rfl, q⟩) (fun _ => ?_)⟩
      refine ⟨_, rfl, _, .ty "list", _, .type "list", _, rfl, .ty _, ht.ty, kit_ty (kit_all ht.mem).2.2.1, _, rfl, ?_⟩
      rw [beq_eq_false_iff_ne.mpr n1]
      refine iteF ⟨_, rfl, _, .ty "tuple", _, .type "tuple", _, rfl, .ty _, ht.ty, kit_ty (kit_all ht.mem).2.2.2.1, _, rfl, ?_⟩
      rw [beq_eq_false_iff_ne.mpr n2]
      refine iteF ⟨_, rfl, _, .ty "dict", _, .type "dict", _, rfl, .ty _, ht.ty, kit_ty (kit_all ht.mem).2.2.2.2.2, _, rfl, ?_⟩
      rw [beq_eq_false_iff_ne.mpr n3]
      exact iteF ⟨_, rfl, q⟩
    · refine ⟨_, ((pss_cons (ps_if (pt_cmpR op_eq (pv 1) pe_int (nomark _)) (pss_one (ps_ret (pv 0))) pss_nil)
  (pss_cons (ps_if (pt_val (pe_callB (isiK (K := K) rfl) (by rfl) T.z_isinstance (by decide +kernel) (pa_cons (pv 0) (pa_cons (pe_bltn (v := .ty "list") (by rfl) T.z_list (by decide +kernel) rfl) pa_nil)))) (pss_one (ps_ret (pe_lc (own := [("part", 2)]) (g := (gName 2)) (tt := tYes) rfl sc_kept.nd (iListK (K := K) rfl (pv 0)) (blkOk_by (N := n_kept) (sc := defScope s_kept) (by decide +kernel)) (fun _ _ _ _ _ => (pg_name (i := 2) sc_kept.nd rfl (Or.inl rfl))) (fun _ _ _ _ _ => pts_nil) (fun _ _ _ _ _ => (pe_call G_kept hr (by rfl) T.g_kept T.F_kept.kp T.b_kept .nil pass0 (pa_cons (pv 2) (pa_cons (pe_op op_sub (pv 1) pe_int) pa_nil))))))) pss_nil)
  (pss_cons (ps_if (pt_val (pe_callB (isiK (K := K) rfl) (by rfl) T.z_isinstance (by decide +kernel) (pa_cons (pv 0) (pa_cons (pe_bltn (v := .ty "tuple") (by rfl) T.z_tuple (by decide +kernel) rfl) pa_nil)))) (pss_one (ps_ret (pe_callTy (tupleK (K := K) rfl) (by rfl) T.z_tuple (by decide +kernel) (pa_cons (pe_lc (own := [("part", 2)]) (g := (gName 2)) (tt := tYes) rfl sc_kept.nd (iListK (K := K) rfl (pv 0)) (blkOk_by (N := n_kept) (sc := defScope s_kept) (by decide +kernel)) (fun _ _ _ _ _ => (pg_name (i := 2) sc_kept.nd rfl (Or.inl rfl))) (fun _ _ _ _ _ => pts_nil) (fun _ _ _ _ _ => (pe_call G_kept hr (by rfl) T.g_kept T.F_kept.kp T.b_kept .nil pass0 (pa_cons (pv 2) (pa_cons (pe_op op_sub (pv 1) pe_int) pa_nil))))) pa_nil)))) pss_nil)
  (pss_cons (ps_if (pt_val (pe_callB (isiK (K := K) rfl) (by rfl) T.z_isinstance (by decide +kernel) (pa_cons (pv 0) (pa_cons (pe_bltn (v := .ty "dict") (by rfl) T.z_dict (by decide +kernel) rfl) pa_nil)))) (pss_one ps_never) pss_nil)
  (pss_one (ps_ret (pv 0))))))) : PSs _ _ _).nox, ?_⟩
      have ht : AnyT H (.ref a) "list" := .lst ha
      refine ⟨_, rfl, rfl, _, rfl, ?_⟩
      rw [decide_eq_false hd0]
      refine iteF ⟨_, rfl, _, .ty "list", _, .type "list", _, rfl, .ty _, ht.ty, kit_ty (kit_all ht.mem).2.2.1, _, rfl, ?_⟩
      refine iteT (un_ret (el_mapN' (xs := xs) (ev_var rfl) ha (by omega) (fun _ => rfl) (fun i x H1 e1 hx => ?_) H (Ex.refl H) _ (fun p H1 hp e1 h1 => q p H1 hp e1 h1)))
      exact fun H2 e2 Q q => ⟨_, rfl, _, rfl, d, 1, rfl, rfl, x, d - 1, rfl, (hf x (List.mem_of_getElem? hx)).ext (e1.trans e2), q H2 (Ex.refl _)⟩
    · refine ⟨_, ((pss_cons (ps_if (pt_cmpR op_eq (pv 1) pe_int (nomark _)) (pss_one (ps_ret (pv 0))) pss_nil)
  (pss_cons (ps_if (pt_val (pe_callB (isiK (K := K) rfl) (by rfl) T.z_isinstance (by decide +kernel) (pa_cons (pv 0) (pa_cons (pe_bltn (v := .ty "list") (by rfl) T.z_list (by decide +kernel) rfl) pa_nil)))) (pss_one (ps_ret (pe_lc (own := [("part", 2)]) (g := (gName 2)) (tt := tYes) rfl sc_kept.nd (iTupK (K := K) rfl (pv 0)) (blkOk_by (N := n_kept) (sc := defScope s_kept) (by decide +kernel)) (fun _ _ _ _ _ => (pg_name (i := 2) sc_kept.nd rfl (Or.inl rfl))) (fun _ _ _ _ _ => pts_nil) (fun _ _ _ _ _ => (pe_call G_kept hr (by rfl) T.g_kept T.F_kept.kp T.b_kept .nil pass0 (pa_cons (pv 2) (pa_cons (pe_op op_sub (pv 1) pe_int) pa_nil))))))) pss_nil)
  (pss_cons (ps_if (pt_val (pe_callB (isiK (K := K) rfl) (by rfl) T.z_isinstance (by decide +kernel) (pa_cons (pv 0) (pa_cons (pe_bltn (v := .ty "tuple") (by rfl) T.z_tuple (by decide +kernel) rfl) pa_nil)))) (pss_one (ps_ret (pe_callTy (tupleK (K := K) rfl) (by rfl) T.z_tuple (by decide +kernel) (pa_cons (pe_lc (own := [("part", 2)]) (g := (gName 2)) (tt := tYes) rfl sc_kept.nd (iTupK (K := K) rfl (pv 0)) (blkOk_by (N := n_kept) (sc := defScope s_kept) (by decide +kernel)) (fun _ _ _ _ _ => (pg_name (i := 2) sc_kept.nd rfl (Or.inl rfl))) (fun _ _ _ _ _ => pts_nil) (fun _ _ _ _ _ => (pe_call G_kept hr (by rfl) T.g_kept T.F_kept.kp T.b_kept .nil pass0 (pa_cons (pv 2) (pa_cons (pe_op op_sub (pv 1) pe_int) pa_nil))))) pa_nil)))) pss_nil)
  (pss_cons (ps_if (pt_val (pe_callB (isiK (K := K) rfl) (by rfl) T.z_isinstance (by decide +kernel) (pa_cons (pv 0) (pa_cons (pe_bltn (v := .ty "dict") (by rfl) T.z_dict (by decide +kernel) rfl) pa_nil)))) (pss_one ps_never) pss_nil)
  (pss_one (ps_ret (pv 0))))))) : PSs _ _ _).nox, ?_⟩
      have ht : AnyT H (.ref a) "tuple" := .tup ha
      refine ⟨_, rfl, rfl, _, rfl, ?_⟩
      rw [decide_eq_false hd0]
      refine iteF ⟨_, rfl, _, .ty "list", _, .type "list", _, rfl, .ty _, ht.ty, kit_ty (kit_all ht.mem).2.2.1, _, rfl, ?_⟩
      refine iteF ⟨_, rfl, _, .ty "tuple", _, .type "tuple", _, rfl, .ty _, ht.ty, kit_ty (kit_all ht.mem).2.2.2.1, _, rfl, ?_⟩
      refine iteT (un_ret (un_cb (un_cons ?_)))
      refine el_mapTN' (xs := xs) (ev_var rfl) (SqT.of ha) (by omega) (fun _ => rfl) (fun i x H1 e1 hx => ?_) H (Ex.refl H) _ (fun p H1 hp e1 h1 => ?_)
      · exact fun H2 e2 Q q => ⟨_, rfl, _, rfl, d, 1, rfl, rfl, x, d - 1, rfl, (hf x (List.mem_of_getElem? hx)).ext (e1.trans e2), q H2 (Ex.refl _)⟩
      · exact ⟨p, xs, rfl, .inl ⟨SqL.of h1, fun l hl' => q l _ (fresh_back e1 hl') (e1.trans (Ex.new hl')) upd_same⟩⟩
    · refine ⟨_, ((pss_cons (ps_if (pt_cmpR op_eq (pv 1) pe_int (nomark _)) (pss_one (ps_ret (pv 0))) pss_nil)
  (pss_cons (ps_if (pt_val (pe_callB (isiK (K := K) rfl) (by rfl) T.z_isinstance (by decide +kernel) (pa_cons (pv 0) (pa_cons (pe_bltn (v := .ty "list") (by rfl) T.z_list (by decide +kernel) rfl) pa_nil)))) (pss_one (ps_ret (pe_lc (own := [("part", 2)]) (g := (gName 2)) (tt := tYes) rfl sc_kept.nd (iListK (K := K) rfl (pv 0)) (blkOk_by (N := n_kept) (sc := defScope s_kept) (by decide +kernel)) (fun _ _ _ _ _ => (pg_name (i := 2) sc_kept.nd rfl (Or.inl rfl))) (fun _ _ _ _ _ => pts_nil) (fun _ _ _ _ _ => (pe_call G_kept hr (by rfl) T.g_kept T.F_kept.kp T.b_kept .nil pass0 (pa_cons (pv 2) (pa_cons (pe_op op_sub (pv 1) pe_int) pa_nil))))))) pss_nil)
  (pss_cons (ps_if (pt_val (pe_callB (isiK (K := K) rfl) (by rfl) T.z_isinstance (by decide +kernel) (pa_cons (pv 0) (pa_cons (pe_bltn (v := .ty "tuple") (by rfl) T.z_tuple (by decide +kernel) rfl) pa_nil)))) (pss_one (ps_ret (pe_callTy (tupleK (K := K) rfl) (by rfl) T.z_tuple (by decide +kernel) (pa_cons (pe_lc (own := [("part", 2)]) (g := (gName 2)) (tt := tYes) rfl sc_kept.nd (iListK (K := K) rfl (pv 0)) (blkOk_by (N := n_kept) (sc := defScope s_kept) (by decide +kernel)) (fun _ _ _ _ _ => (pg_name (i := 2) sc_kept.nd rfl (Or.inl rfl))) (fun _ _ _ _ _ => pts_nil) (fun _ _ _ _ _ => (pe_call G_kept hr (by rfl) T.g_kept T.F_kept.kp T.b_kept .nil pass0 (pa_cons (pv 2) (pa_cons (pe_op op_sub (pv 1) pe_int) pa_nil))))) pa_nil)))) pss_nil)
  (pss_cons (ps_if (pt_val (pe_callB (isiK (K := K) rfl) (by rfl) T.z_isinstance (by decide +kernel) (pa_cons (pv 0) (pa_cons (pe_bltn (v := .ty "dict") (by rfl) T.z_dict (by decide +kernel) rfl) pa_nil)))) (pss_one (ps_ret (pe_lock (pe_dc (own := [("key", 3)]) (g := (gName 3)) (tt := tYes) rfl sc_kept.nd (pi_keys (pv 0)) (blkOk_by (N := n_kept) (sc := defScope s_kept) (by decide +kernel)) (fun _ _ _ _ _ => (pg_name (i := 3) sc_kept.nd rfl (Or.inl rfl))) (fun _ _ _ _ _ => pts_nil) (fun _ _ _ _ _ => (pv 3)) (fun _ _ _ _ _ => (pe_call G_kept hr (by rfl) T.g_kept T.F_kept.kp T.b_kept .nil pass0 (pa_cons (pe_dget (Nat.lt_of_le_of_lt (Nat.add_le_add_left (by decide) _) hr.units) (pv 0) (pv 3) (fun _ _ => rfl)) (pa_cons (pe_op op_sub (pv 1) pe_int) pa_nil)))))))) pss_nil)
  (pss_one (ps_ret (pv 0))))))) : PSs _ _ _).nox, ?_⟩
      have ht : AnyT H (.ref a) "dict" := .dK ha
      refine ⟨_, rfl, rfl, _, rfl, ?_⟩
      rw [decide_eq_false hd0]
      refine iteF ⟨_, rfl, _, .ty "list", _, .type "list", _, rfl, .ty _, ht.ty, kit_ty (kit_all ht.mem).2.2.1, _, rfl, ?_⟩
      refine iteF ⟨_, rfl, _, .ty "tuple", _, .type "tuple", _, rfl, .ty _, ht.ty, kit_ty (kit_all ht.mem).2.2.2.1, _, rfl, ?_⟩
      refine iteF ⟨_, rfl, _, .ty "dict", _, .type "dict", _, rfl, .ty _, ht.ty, kit_ty (kit_all ht.mem).2.2.2.2.2, _, rfl, ?_⟩
      refine iteT (un_ret ⟨a, .dK kvs, ha, True.intro, fun od => ⟨_, rfl, a, od, rfl, .inl ⟨kvs, upd_same, fun D hD => ?_⟩⟩⟩)
      have hDa : D ≠ a := fun e => by rw [e, upd_same] at hD; cases hD
      refine dc_it walk_keys (fun i H' => Ex (upd H a (.frz od (.dK kvs))) H' ∧ H' D = some (.dK (kvs.take i))) ⟨Ex.new hD, upd_same⟩ (fun i H' _ p => p.1 a _ upd_same) (fun i x H1 H2 hi p y => ?_) (fun H' p => ⟨p.1 a _ upd_same, ?_⟩)
      · obtain ⟨rfl, k, v, hk, rfl⟩ := y
        refine ⟨rfl, un_yes (iteT ?_)⟩
        refine ⟨_, rfl, ?_⟩
        refine ⟨_, rfl, _, rfl, a, v, rfl, .inl ⟨kvs, k, .inr ⟨od, p.1 a _ upd_same⟩, rfl, (val_at hn hk).symm⟩, _, rfl, d, 1, rfl, rfl, v, d - 1, rfl, (hf (k, v) (List.mem_of_getElem? hk)).any, ?_⟩
        refine ⟨kvs.take i, k, rfl, p.2, ?_, p.1.mut hD, ?_⟩
        · rw [List.length_take]; exact sz_lt (by omega)
        · rw [upd_same, putK_new v (val_before hn hk), List.take_add_one, hk]; rfl
      · refine q D _ ?_ (fun b o hb => ?_) ?_
        · rw [upd_ne hDa] at hD; exact hD
        · by_cases e : b = a
          · rw [e] at hb ⊢
            rw [upd_same, ← hb, ha]
          · rw [upd_ne e]
            exact p.1 b o (by rw [upd_ne e]; exact hb)
        · rw [upd_ne hDa, p.2, List.take_length]
end
end K03

set_option maxHeartbeats 2000000
namespace K03
open PySem PySem.Spec PyProof.Rows L2 Evl MyG NdefX
abbrev s_NoLink___init__ : Stmt := (inClass (top 7) 0)
abbrev n_NoLink___init__ : List Str := ["self", "number", "__class__"]
theorem sc_NoLink___init__ : NScope ["self", "number", "__class__"] ["self", "number"] ["__class__"] (defScope s_NoLink___init__) := nscope_by (by decide +kernel)
abbrev s_NoHall___init__ : Stmt := (inClass (top 6) 0)
abbrev n_NoHall___init__ : List Str := ["self", "number", "__class__"]
theorem sc_NoHall___init__ : NScope ["self", "number", "__class__"] ["self", "number"] ["__class__"] (defScope s_NoHall___init__) := nscope_by (by decide +kernel)
/-- what is written of a def that begins with super().__init__(..): C its class, cc the cell of __class__, c the code -/
structure FunS (K : PySem.W.Frag) (x qual : Str) (st : Stmt) (f : Addr) (fd : FuncData) (cc c : Addr) : Prop where
  ex : ∃ (oc : Value) (od : Option Addr) (kV doc pm : Value) (an : Option Addr) (ct : Value) (osl : Array (Option Value)),
    fd = PySem.W.fnX x qual (defArgs st) (defBody st) (defScope st) [(("__class__" : Str), cc)] .none kV doc pm an (.ref c) ct ∧ K.lookup f = some ⟨oc, od, .func fd, osl⟩ ∧ PySem.W.codeIn K (.ref c) qual = true
  kp : PySem.W.keepIn K (.ref f) = true
theorem kept_mono {vs : List V} {H : Hp} {Q Q' : VK} {E E' : XK} (h : sp_kept vs H Q E) (k : ∀ v H', Q v H' → Q' v H') : sp_kept vs H Q' E' := by
  obtain ⟨x, d, e, hd, h⟩ := h
  refine ⟨x, d, e, hd, ?_⟩
  rcases h with ⟨hf, q⟩ | ⟨a, xs, ex, ha, hl, hf, q⟩ | ⟨a, xs, ex, ha, hl, hf, q⟩ | ⟨a, xs, ex, ha, hl, hn, hf, q⟩
  · exact .inl ⟨hf, k _ _ q⟩
  · exact .inr (.inl ⟨a, xs, ex, ha, hl, hf, fun p H' h1 h2 h3 => k _ _ (q p H' h1 h2 h3)⟩)
  · exact .inr (.inr (.inl ⟨a, xs, ex, ha, hl, hf, fun p H' h1 h2 h3 => k _ _ (q p H' h1 h2 h3)⟩))
  · exact .inr (.inr (.inr ⟨a, xs, ex, ha, hl, hn, hf, fun p H' h1 h2 h3 => k _ _ (q p H' h1 h2 h3)⟩))
/-- a fresh exception of C gets its one field, number: what was handed in, kept -/
def sp_num (C : Addr) : Sp := fun vs H Q E => ∃ (a : Addr) (x : V), vs = [.ref a, x] ∧ H a = some (exo a C none) ∧
  sp_kept [x, .int 100] H (fun y H' => H' a = some (exo a C none) ∧ ∀ dx, H' dx = none → dx ≠ a → Q .non (upd (upd H' dx (exd dx [("number", y)])) a (exo a C (some dx)))) E
section
variable {P : Program} {w : World} {K : PySem.W.Frag} {mg : Str → Option Value} {base : Heap}
theorem ok_nolink (T : Tx K mg) {f C cc c : Addr} {fd : FuncData} (F : FunS K "__init__" "NoLink.__init__" s_NoLink___init__ f fd cc c) (S : SupC P K mg C cc c) (hno : PySem.W.findIn K (.ref C) "number" = some none) :
    FnOk P w K mg base CX0 3 f fd ["self", "number"] (sp_num C) := by
  have G_kept := ok_kept (P := P) (w := w) (base := base) T
  obtain ⟨oc, od, kV, doc, pm, an, ct, osl, efd, lk, hcd⟩ := F.ex
  have hsn : (defScope s_NoLink___init__).names.lookup ("super" : Str) = some .globalImplicit := by decide +kernel
  refine okS (F := ⟨"__init__", "NoLink.__init__", defArgs s_NoLink___init__, defBody s_NoLink___init__, defScope s_NoLink___init__, [(("__class__" : Str), cc)], c⟩) efd sc_NoLink___init__ rfl S hsn (by rfl) (by rfl) (by rfl) (by rfl) (by rfl) hcd lk (by rfl) ?_ ?_
  · intro vs H Q E h
    obtain ⟨_, _, rfl, _⟩ := h
    rfl
  · intro A outer s H vs Q E hr h
    obtain ⟨a, x, rfl, ha, q⟩ := h
    refine ⟨a, _, _, rfl, ha, pa_cons (pe_str) pa_nil, (pss_one (ps_ost (pv 0) (pe_call G_kept (hr.mono (by decide)) (by rfl) T.g_kept T.F_kept.kp T.b1_kept T.dv_kept pass0 (pa_cons (pv 1) pa_nil)))), ?_⟩
    refine ⟨by decide, ha, ?_⟩
    refine ⟨_, rfl, ?_⟩
    unfold tNil
    dsimp only [List.cons_append, List.nil_append]
    exact kept_mono q fun y H' r => ⟨_, rfl, a, C, rfl, S.ox, hno, .inl r⟩
theorem ok_nohall (T : Tx K mg) {f C cc c : Addr} {fd : FuncData} (F : FunS K "__init__" "NoHall.__init__" s_NoHall___init__ f fd cc c) (S : SupC P K mg C cc c) (hno : PySem.W.findIn K (.ref C) "number" = some none) :
    FnOk P w K mg base CX0 3 f fd ["self", "number"] (sp_num C) := by
  have G_kept := ok_kept (P := P) (w := w) (base := base) T
  obtain ⟨oc, od, kV, doc, pm, an, ct, osl, efd, lk, hcd⟩ := F.ex
  have hsn : (defScope s_NoHall___init__).names.lookup ("super" : Str) = some .globalImplicit := by decide +kernel
  refine okS (F := ⟨"__init__", "NoHall.__init__", defArgs s_NoHall___init__, defBody s_NoHall___init__, defScope s_NoHall___init__, [(("__class__" : Str), cc)], c⟩) efd sc_NoHall___init__ rfl S hsn (by rfl) (by rfl) (by rfl) (by rfl) (by rfl) hcd lk (by rfl) ?_ ?_
  · intro vs H Q E h
    obtain ⟨_, _, rfl, _⟩ := h
    rfl
  · intro A outer s H vs Q E hr h
    obtain ⟨a, x, rfl, ha, q⟩ := h
    refine ⟨a, _, _, rfl, ha, pa_cons (pe_str) pa_nil, (pss_one (ps_ost (pv 0) (pe_call G_kept (hr.mono (by decide)) (by rfl) T.g_kept T.F_kept.kp T.b1_kept T.dv_kept pass0 (pa_cons (pv 1) pa_nil)))), ?_⟩
    refine ⟨by decide, ha, ?_⟩
    refine ⟨_, rfl, ?_⟩
    unfold tNil
    dsimp only [List.cons_append, List.nil_append]
    exact kept_mono q fun y H' r => ⟨_, rfl, a, C, rfl, S.ox, hno, .inl r⟩
end
end K03

set_option maxHeartbeats 2000000
namespace K03
open PySem PySem.Spec PyProof.Rows L2 Evl MyG
/-- what is written of an own exception with one field number -/
structure ExI (P : Program) (K : PySem.W.Frag) (mg : Str → Option Value) (x : Str) (st : Stmt) (qual : Str) (C f cc c : Addr) (fd : FuncData) : Prop where
  F : FunS K "__init__" qual st f fd cc c
  S : SupC P K mg C cc c
  no : PySem.W.findIn K (.ref C) "number" = some none
  i : PySem.W.findIn K (.ref C) "__init__" = some (some (.ref f))
  ti : PySem.W.typeIn K (.ref f) = some (.type "function")
  b : Binds K fd ["self", "number"] []
  g : mg x = some (.ref C)
theorem ExI.ox {P : Program} {K : PySem.W.Frag} {mg : Str → Option Value} {x : Str} {st : Stmt} {qual : Str} {C f cc c : Addr} {fd : FuncData} (X : ExI P K mg x st qual C f cc c fd) : OexC K C := X.S.ox
section
variable {P : Program} {w : World} {K : PySem.W.Frag} {mg : Str → Option Value} {base : Heap}
/-- the exception let go: its dict alone stands -/
theorem told_heap {H : Hp} {e dx : Addr} {o u o2 : HO} (h : dx ≠ e) : upd (del (upd (upd H dx o) e u) e) dx o2 = upd (del H e) dx o2 := by
  funext b
  by_cases e1 : b = dx
  · rw [e1, upd_same, upd_same]
  · rw [upd_ne e1, upd_ne e1]
    by_cases e2 : b = e
    · rw [e2, del_same, del_same]
    · rw [del_ne e2, del_ne e2, upd_ne e2, upd_ne e1]
/-- what can be kept: a flat thing, or a list, tuple or dict of such -/
def Thing (H : Hp) (x : V) : Prop := Flat H x ∨ (∃ a xs, x = .ref a ∧ H a = some (.lst xs) ∧ xs.length ≤ 1000 ∧ ∀ y ∈ xs, Flat H y) ∨ (∃ a xs, x = .ref a ∧ H a = some (.tup xs) ∧ xs.length ≤ 1000 ∧ ∀ y ∈ xs, Flat H y) ∨
  ∃ a kvs, x = .ref a ∧ H a = some (.dK kvs) ∧ kvs.length ≤ 1000 ∧ (kvs.map (·.1)).Nodup ∧ ∀ kv ∈ kvs, Flat H kv.2
/-- the same thing, or one made alike -/
def Copy (H : Hp) (x : V) (H' : Hp) (y : V) : Prop := (Flat H x ∧ y = x) ∨ (∃ a xs p, x = .ref a ∧ H a = some (.lst xs) ∧ y = .ref p ∧ H' p = some (.lst xs)) ∨ (∃ a xs p, x = .ref a ∧ H a = some (.tup xs) ∧ y = .ref p ∧ H' p = some (.tup xs)) ∨
  ∃ a kvs p, x = .ref a ∧ H a = some (.dK kvs) ∧ y = .ref p ∧ H' p = some (.dK kvs)
theorem Thing.ext {H H' : Hp} {x : V} (e : Ex H H') (h : Thing H x) : Thing H' x := by
  rcases h with h | ⟨a, xs, ex, ha, hl, hf⟩ | ⟨a, xs, ex, ha, hl, hf⟩ | ⟨a, kvs, ex, ha, hl, hn, hf⟩
  · exact .inl h.any
  · exact .inr (.inl ⟨a, xs, ex, e _ _ ha, hl, fun y hy => (hf y hy).any⟩)
  · exact .inr (.inr (.inl ⟨a, xs, ex, e _ _ ha, hl, fun y hy => (hf y hy).any⟩))
  · exact .inr (.inr (.inr ⟨a, kvs, ex, e _ _ ha, hl, hn, fun y hy => (hf y hy).any⟩))
theorem Copy.back {H H1 H' : Hp} {x y : V} (e : Ex H H1) (t : Thing H x) (h : Copy H1 x H' y) : Copy H x H' y := by
  have noref : ∀ {a : Addr} {G : Hp}, ¬ Flat G (.ref a) := fun {a G} z => by
    obtain ⟨t, ht, n1, n2, n3⟩ := z
    cases ht with
    | lst z => exact n1 rfl
    | tup z => exact n2 rfl
    | dK z => exact n3 rfl
  rcases h with ⟨h, rfl⟩ | ⟨a, xs, p, rfl, ha, hy, hp⟩ | ⟨a, xs, p, rfl, ha, hy, hp⟩ | ⟨a, xs, p, rfl, ha, hy, hp⟩
  · exact .inl ⟨h.any, rfl⟩
  · rcases t with h | ⟨b, ys, ex, hb, _⟩ | ⟨b, ys, ex, hb, _⟩ | ⟨b, ys, ex, hb, _⟩
    · exact absurd h noref
    all_goals
      cases ex
      have z := e _ _ hb
      rw [ha] at z
      cases z
    exact .inr (.inl ⟨_, _, p, rfl, hb, hy, hp⟩)
  · rcases t with h | ⟨b, ys, ex, hb, _⟩ | ⟨b, ys, ex, hb, _⟩ | ⟨b, ys, ex, hb, _⟩
    · exact absurd h noref
    all_goals
      cases ex
      have z := e _ _ hb
      rw [ha] at z
      cases z
    exact .inr (.inr (.inl ⟨_, _, p, rfl, hb, hy, hp⟩))
  · rcases t with h | ⟨b, ys, ex, hb, _⟩ | ⟨b, ys, ex, hb, _⟩ | ⟨b, ys, ex, hb, _⟩
    · exact absurd h noref
    all_goals
      cases ex
      have z := e _ _ hb
      rw [ha] at z
      cases z
    exact .inr (.inr (.inr ⟨_, _, p, rfl, hb, hy, hp⟩))
theorem Thing.any {H : Hp} {x : V} (h : Thing H x) : ∃ t, AnyT H x t := by
  rcases h with ⟨t, h, _⟩ | ⟨a, xs, rfl, ha, _⟩ | ⟨a, xs, rfl, ha, _⟩ | ⟨a, kvs, rfl, ha, _⟩
  · exact ⟨t, h⟩
  · exact ⟨_, .lst ha⟩
  · exact ⟨_, .tup ha⟩
  · exact ⟨_, .dK ha⟩
/-- refused by the class at C, which bears the thing -/
def Rfz (C : Addr) (x : V) (H : Hp) (E : XK) : Prop := ∀ dx y H', Ex H H' → H dx = none → H' dx = some (.xd [("number", y)]) → Copy H x H' y → E (.ref C) (some dx) H'
theorem Rfz.after {C : Addr} {x : V} {H H1 : Hp} {E : XK} (e : Ex H H1) (t : Thing H x) (h : Rfz C x H E) : Rfz C x H1 E := fun dx y H' e' hd hx hc => h dx y H' (e.trans e') (fresh_back e hd) hx (hc.back e t)
theorem Ex.del {H H' : Hp} {a : Addr} (e : Ex H H') (h : H a = none) : Ex H (del H' a) := fun b o hb => by
  rw [del_ne (ne_of_none hb h)]
  exact e b o hb
theorem exo_lst {e C : Addr} {d : Option Addr} {xs : List V} : exo e C d ≠ .lst xs := fun z => by
  have z' : HO.ext _ = HO.lst xs := z
  cases z'
theorem exo_dK {e C : Addr} {d : Option Addr} {xs : List (Key × V)} : exo e C d ≠ .dK xs := fun z => by
  have z' : HO.ext _ = HO.dK xs := z
  cases z'
/-- as the exception's own __init__ asks it -/
theorem rfz_kept {C : Addr} {x : V} {H : Hp} {E : XK} (t : Thing H x) (h : Rfz C x H E) (e : Addr) (he : H e = none) : sp_kept [x, .int 100] (upd H e (exo e C none)) (fun y H' => H' e = some (exo e C none) ∧
    ∀ dx, H' dx = none → dx ≠ e → H dx = none ∧ E (.ref C) (some dx) (upd (L2.del H' e) dx (.xd [("number", y)]))) (fun _ _ _ => False) := by
  have eN : Ex H (upd H e (exo e C none)) := Ex.new he
  have fin : ∀ y H', Ex (upd H e (exo e C none)) H' → (∀ H'', (∀ p o, H' p = some o → p ≠ e → H'' p = some o) → Copy H x H'' y) → H' e = some (exo e C none) ∧ ∀ dx, H' dx = none → dx ≠ e → H dx = none ∧ E (.ref C) (some dx) (upd (L2.del H' e) dx (.xd [("number", y)])) := fun y H' e1 hc => ⟨e1 _ _ upd_same, fun dx h1 h2 => by
    have e2 : Ex H (L2.del H' e) := Ex.del (eN.trans e1) he
    exact ⟨fresh_back (eN.trans e1) h1, h dx y _ (e2.mut (fresh_back (eN.trans e1) h1)) (fresh_back (eN.trans e1) h1) upd_same (hc _ fun p o hp hne => by rw [upd_ne (ne_of_none hp h1), del_ne hne]; exact hp)⟩⟩
  rcases t with hf | ⟨a, xs, rfl, ha, hl, hf⟩ | ⟨a, xs, rfl, ha, hl, hf⟩ | ⟨a, kvs, rfl, ha, hl, hn, hf⟩
  · exact ⟨x, 100, rfl, by decide, .inl ⟨hf.any, fin x _ (Ex.refl _) fun H'' _ => .inl ⟨hf, rfl⟩⟩⟩
  · exact ⟨_, 100, rfl, by decide, .inr (.inl ⟨a, xs, rfl, eN _ _ ha, hl, fun y hy => (hf y hy).any, fun p H' hp e1 h1 => fin _ H' e1 fun H'' k => .inr (.inl ⟨a, xs, p, rfl, ha, rfl, k p _ h1 (fun z => by rw [z, upd_same] at hp; cases hp)⟩)⟩)⟩
  · exact ⟨_, 100, rfl, by decide, .inr (.inr (.inl ⟨a, xs, rfl, eN _ _ ha, hl, fun y hy => (hf y hy).any, fun p H' hp e1 h1 => fin _ H' e1 fun H'' k => .inr (.inr (.inl ⟨a, xs, p, rfl, ha, rfl, k p _ h1 (fun z => by rw [z, upd_same] at hp; cases hp)⟩))⟩))⟩
  · exact ⟨_, 100, rfl, by decide, .inr (.inr (.inr ⟨a, kvs, rfl, eN _ _ ha, hl, hn, fun y hy => (hf y hy).any, fun p H' hp e1 h1 => fin _ H' e1 fun H'' k => .inr (.inr (.inr ⟨a, kvs, p, rfl, ha, rfl, k p _ h1 (fun z => by rw [z, upd_same] at hp; cases hp)⟩))⟩))⟩
/-- as `raise C(x)` asks it -/
theorem mk_rfz {C : Addr} {x : V} {σ : L2.St} {H : Hp} {i : Nat} {E : XK} (hi : σ[i]? = some (some x)) (t : Thing H x) (h : Rfz C x H E) : tMkO C (sp_num C) [] (tCons (tVar i) tNil) σ H (fun cls d H' => E cls d H') := by
  refine ⟨_, hi, ?_⟩
  unfold tNil
  refine ⟨Nat.le_of_ble_eq_true rfl, fun e he => ⟨e, x, rfl, upd_same, kept_mono (rfz_kept t h e he) fun y H' r => ⟨r.1, fun dx h1 h2 => ?_⟩⟩⟩
  obtain ⟨r1, r2⟩ := r.2 dx h1 h2
  refine ⟨rfl, dx, _, upd_same, by rw [upd_ne h2, upd_same], r1, ?_⟩
  rw [told_heap h2]
  exact r2
/-- no link of the net is refused -/
def sp_linkX (CN C : Addr) : Sp := fun vs H _ E => ∃ (n : Addr) (B : Hp) (ps qs : List Int) (rs : List Row) (x : V), vs = [.ref n, x] ∧ Ex B H ∧ NetAt CN B n ps qs rs ∧ rs.length ≤ 12 ∧ Thing H x ∧ (¬ ∃ k : Nat, x = .int (k : Int) ∧ k < rs.length) ∧ Rfz C x H E
theorem ok_linkX (T : Tx K mg) {C f cc c : Addr} {fd : FuncData} (X_NoLink : ExI P K mg "NoLink" s_NoLink___init__ "NoLink.__init__" C f cc c fd) :
    FnOk P w K mg base (L2.CX P w) 5 T.a_Net__link T.d_Net__link ["self", "link"] (sp_linkX T.c_Net C) := by
  have G_NoLink := ok_nolink (P := P) (w := w) (base := base) T X_NoLink.F X_NoLink.S X_NoLink.no
  have G_is_number := ok_isnum (P := P) (w := w) (base := base) T
  refine T.F_Net__link.okX sc_Net__link (fun vs H Q E h => ?_) (fun cdv A outer s H vs Q E hr h => ?_)
  · obtain ⟨_, _, _, _, _, _, rfl, _⟩ := h
    rfl
  · obtain ⟨n, B, ps, qs, rs, x, rfl, eB, hN, h12, hx, hno, q⟩ := h
    refine ⟨_, (pss_cons (ps_if (PW.pt (pw_or (pt_not (pt_val (pe_call G_is_number (hr.mono (by decide)) (by rfl) T.g_is_number T.F_is_number.kp T.b_is_number .nil pass0 (pa_cons (pv 1) pa_nil)))) (pw_or1 (pt_not (pt_chain op_le op_lt pe_int (pv 1) (pe_callB (lenK (K := K) rfl) (by rfl) T.z_len (by decide +kernel) (pa_cons (fldK (K := K) rfl (pv 0) rfl) pa_nil))))))) (pss_one (ps_raise rfl (takes_of rfl rfl rfl rfl) (pmk_oex X_NoLink.ox X_NoLink.i X_NoLink.ti G_NoLink (hr.mono (by decide)) X_NoLink.b .nil pass0 (by rfl) X_NoLink.g (pa_cons (pv 1) pa_nil)))) pss_nil)
  (pss_one (ps_ret (pe_ix (ix_listK (K := K) rfl) (fldK (K := K) rfl (pv 0) rfl) (pv 1) (fun _ _ => rfl))))), ?_⟩
    obtain ⟨dxn, h, r', l, ts, hn, hh, hr1, hl, hrs⟩ := hN.ex
    have hlen := hrs.len
    obtain ⟨t, ht⟩ := hx.any
    refine ⟨_, rfl, _, t, rfl, ht, _, rfl, ?_⟩
    by_cases et : t = "int"
    · subst et
      obtain ⟨i, rfl⟩ := int_of ht
      refine iteF ⟨_, rfl, 0, i, rfl, rfl, _, rfl, ite2 (fun h0 => ?_) (fun _ => ⟨_, rfl, iteT (mk_rfz rfl hx q)⟩)⟩
      refine ⟨_, rfl, n, T.c_Net, dxn, _, _, rfl, eB _ _ hn, T.cl_Net, T.n_Net__links, nf_l _ _ _, l, _, rfl, .inl (SqL.of (eB _ _ hl)), i, _, rfl, rfl, _, rfl, ?_⟩
      rw [decide_eq_false (show ¬ i < (ts.length : Int) from fun z => hno ⟨i.toNat, by rw [Int.toNat_of_nonneg (of_decide_eq_true h0)], by have := of_decide_eq_true h0; omega⟩)]
      exact iteT (mk_rfz rfl hx q)
    · rw [beq_eq_false_iff_ne.mpr et]
      exact iteT (mk_rfz rfl hx q)
/-! ### the looks, refused -/
def sp_costX (CN C : Addr) : Sp := sp_linkX CN C
/-- both ways of a link's row -/
abbrev sp_linkB (CN C : Addr) : Sp := fun vs H Q E => sp_nlink CN vs H Q E ∨ sp_linkX CN C vs H Q E
theorem ok_linkB (T : Tx K mg) {C f cc c : Addr} {fd : FuncData} (X_NoLink : ExI P K mg "NoLink" s_NoLink___init__ "NoLink.__init__" C f cc c fd) :
    FnOk P w K mg base (L2.CX P w) 5 T.a_Net__link T.d_Net__link ["self", "link"] (sp_linkB T.c_Net C) := fn_or ((fn_lift (ok_nlink T)).mono (by decide)) (ok_linkX T X_NoLink)
theorem ok_costX (T : Tx K mg) {C f cc c : Addr} {fd : FuncData} (X_NoLink : ExI P K mg "NoLink" s_NoLink___init__ "NoLink.__init__" C f cc c fd) :
    FnOk P w K mg base (L2.CX P w) 6 T.a_Net_cost T.d_Net_cost ["self", "link"] (sp_costX T.c_Net C) := by
  have G_Net__link := ok_linkB (P := P) (w := w) (base := base) T X_NoLink
  refine T.F_Net_cost.okX sc_Net_cost (fun vs H Q E h => ?_) (fun cdv A outer s H vs Q E hr h => ?_)
  · obtain ⟨_, _, _, _, _, _, rfl, _⟩ := h
    rfl
  · obtain ⟨n, B, ps, qs, rs, x, rfl, eB, hN, h12, hx, hno, q⟩ := h
    refine ⟨_, (pss_one (ps_ret (pe_ix (ix_tupK (K := K) rfl) (pe_meth (pv 0) T.cl_Net T.me_Net__link G_Net__link (hr.mono (by decide)) T.b_Net__link .nil (passes_call (takes_of rfl rfl rfl rfl) (fun _ _ _ _ h => h)) (pa_cons (pv 1) pa_nil)) pe_int (fun _ _ => rfl)))), ?_⟩
    obtain ⟨dxn, h, r', l, ts, hn, hh, hr1, hl, hrs⟩ := id hN.ex
    exact ⟨_, rfl, n, dxn, _, rfl, eB _ _ hn, nf_no _ _ _ (by decide +kernel) (by decide +kernel) (by decide +kernel), _, rfl, .inr ⟨n, B, ps, qs, rs, x, rfl, eB, hN, h12, hx, hno, q⟩⟩
/-- no link, or a link that doesn't join what is handed in -/
def sp_beyondX (CN CL CH : Addr) : Sp := fun vs H _ E => ∃ (n : Addr) (B : Hp) (ps qs : List Int) (rs : List Row) (x y : V), vs = [.ref n, x, y] ∧ Ex B H ∧ NetAt CN B n ps qs rs ∧ rs.length ≤ 12 ∧ Thing H x ∧ Thing H y ∧
  (((¬ ∃ k : Nat, x = .int (k : Int) ∧ k < rs.length) ∧ Rfz CL x H E) ∨ ∃ (k : Nat) (r : Row), x = .int (k : Int) ∧ rs[k]? = some r ∧ (¬ ∃ h, y = .int h ∧ (h = r.1 ∨ h = r.2.1)) ∧ Rfz CH y H E)
theorem ok_beyondX (T : Tx K mg) {C f cc c C' f' cc' c' : Addr} {fd fd' : FuncData} (X_NoLink : ExI P K mg "NoLink" s_NoLink___init__ "NoLink.__init__" C f cc c fd) (X_NoHall : ExI P K mg "NoHall" s_NoHall___init__ "NoHall.__init__" C' f' cc' c' fd') :
    FnOk P w K mg base (L2.CX P w) 6 T.a_Net_beyond T.d_Net_beyond ["self", "link", "hall"] (sp_beyondX T.c_Net C C') := by
  have G_Net__link := ok_linkB (P := P) (w := w) (base := base) T X_NoLink
  have G_NoHall := ok_nohall (P := P) (w := w) (base := base) T X_NoHall.F X_NoHall.S X_NoHall.no
  have G_is_number := ok_isnum (P := P) (w := w) (base := base) T
  refine T.F_Net_beyond.okX sc_Net_beyond (fun vs H Q E h => ?_) (fun cdv A outer s H vs Q E hr h => ?_)
  · obtain ⟨_, _, _, _, _, _, _, rfl, _⟩ := h
    rfl
  · obtain ⟨n, B, ps, qs, rs, x, y, rfl, eB, hN, h12, hx, hy, hc⟩ := h
    refine ⟨_, (pss_cons (ps_asg (pe_meth (pv 0) T.cl_Net T.me_Net__link G_Net__link (hr.mono (by decide)) T.b_Net__link .nil (passes_call (takes_of rfl rfl rfl rfl) (fun _ _ _ _ h => h)) (pa_cons (pv 1) pa_nil)) (pg_tup rfl (pgs_cons (pg_name (i := 3) sc_Net_beyond.nd rfl (Or.inl rfl)) (pgs_cons (pg_name (i := 4) sc_Net_beyond.nd rfl (Or.inl rfl)) (pgs_cons (pg_name (i := 5) sc_Net_beyond.nd rfl (Or.inl rfl)) pgs_nil)))))
  (pss_cons (ps_if (PW.pt (pw_or (pt_not (pt_val (pe_call G_is_number (hr.mono (by decide)) (by rfl) T.g_is_number T.F_is_number.kp T.b_is_number .nil pass0 (pa_cons (pv 2) pa_nil)))) (pw_or1 (pt_cmpR (op_niK (K := K) rfl) (pv 2) (pe_tup (pa_cons (pv 3) (pa_cons (pv 4) pa_nil))) (by rfl))))) (pss_one (ps_raise rfl (takes_of rfl rfl rfl rfl) (pmk_oex X_NoHall.ox X_NoHall.i X_NoHall.ti G_NoHall (hr.mono (by decide)) X_NoHall.b .nil pass0 (by rfl) X_NoHall.g (pa_cons (pv 2) pa_nil)))) pss_nil)
  (pss_one (ps_ret (pe_ifExp (pt_cmpR op_eq (pv 2) (pv 3) (nomark _)) (pv 4) (pv 3)))))), ?_⟩
    obtain ⟨dxn, h, r', l, ts, hn, hh, hr1, hl, hrs⟩ := id hN.ex
    refine ⟨_, rfl, n, dxn, _, rfl, eB _ _ hn, nf_no _ _ _ (by decide +kernel) (by decide +kernel) (by decide +kernel), _, rfl, ?_⟩
    rcases hc with ⟨hno, q⟩ | ⟨k, r, rfl, hk, hno, q⟩
    · exact .inr ⟨n, B, ps, qs, rs, x, rfl, eB, hN, h12, hx, hno, q⟩
    · refine .inl ⟨n, B, ps, qs, rs, k, r, rfl, eB, hN, hk, h12, fun a H1 e ha => ?_⟩
      refine ⟨a, _, rfl, SqT.of (e _ _ (eB _ _ ha)), rfl, _, _, rfl, _, _, rfl, _, _, rfl, rfl, ?_⟩
      obtain ⟨t, ht⟩ := (hy.ext e).any
      refine ⟨_, rfl, _, t, rfl, ht, _, rfl, ?_⟩
      by_cases et : t = "int"
      · subst et
        obtain ⟨i, rfl⟩ := int_of ht
        refine iteF ⟨_, rfl, _, rfl, _, rfl, by show 2 ≤ sizeLine; decide, fun p hp => ⟨p, _, rfl, .inr (SqT.of upd_same), rfl, rfl, _, rfl, ?_⟩⟩
        have ein : inV (.int i) [.int r.1, .int r.2.1] = false := by
          rw [show ([V.int r.1, .int r.2.1] : List V) = [r.1, r.2.1].map V.int from rfl, inV_ints]
          refine decide_eq_false fun z => hno ⟨i, rfl, ?_⟩
          simpa using z
        rw [ein]
        have e2 := e.trans (Ex.new (o := .tup [.int r.1, .int r.2.1]) hp)
        exact iteT (mk_rfz rfl (hy.ext e2) (q.after e2 hy))
      · rw [beq_eq_false_iff_ne.mpr et]
        exact iteT (mk_rfz rfl (hy.ext e) (q.after e hy))
/-- no hall -/
def sp_doorsX (CN C : Addr) : Sp := fun vs H _ E => ∃ (n : Addr) (B : Hp) (ps qs : List Int) (rs : List Row) (y : V), vs = [.ref n, y] ∧ Ex B H ∧ NetAt CN B n ps qs rs ∧ Thing H y ∧ (¬ ∃ h, y = .int h ∧ h ∈ qs) ∧ Rfz C y H E
theorem ok_doorsX (T : Tx K mg) {C f cc c : Addr} {fd : FuncData} (X_NoHall : ExI P K mg "NoHall" s_NoHall___init__ "NoHall.__init__" C f cc c fd) :
    FnOk P w K mg base (L2.CX P w) 5 T.a_Net_doors T.d_Net_doors ["self", "hall"] (sp_doorsX T.c_Net C) := by
  have G_NoHall := ok_nohall (P := P) (w := w) (base := base) T X_NoHall.F X_NoHall.S X_NoHall.no
  have G_is_number := ok_isnum (P := P) (w := w) (base := base) T
  refine T.F_Net_doors.okX sc_Net_doors (fun vs H Q E h => ?_) (fun cdv A outer s H vs Q E hr h => ?_)
  · obtain ⟨_, _, _, _, _, _, rfl, _⟩ := h
    rfl
  · obtain ⟨n, B, ps, qs, rs, y, rfl, eB, hN, hy, hno, q⟩ := h
    refine ⟨_, (pss_cons (ps_if (PW.pt (pw_or (pt_not (pt_val (pe_call G_is_number (hr.mono (by decide)) (by rfl) T.g_is_number T.F_is_number.kp T.b_is_number .nil pass0 (pa_cons (pv 1) pa_nil)))) (pw_or1 (pt_cmpR (op_niK (K := K) rfl) (pv 1) (fldK (K := K) rfl (pv 0) rfl) (by rfl))))) (pss_one (ps_raise rfl (takes_of rfl rfl rfl rfl) (pmk_oex X_NoHall.ox X_NoHall.i X_NoHall.ti G_NoHall (hr.mono (by decide)) X_NoHall.b .nil pass0 (by rfl) X_NoHall.g (pa_cons (pv 1) pa_nil)))) pss_nil)
  (pss_one (ps_ret (pe_lc (own := [("link", 2), ("one", 3), ("other", 4), ("_", 5)]) (g := (gTup K 2 (gCons (gName 2) (gCons (gTup K 3 (gCons (gName 3) (gCons (gName 4) (gCons (gName 5) gNil)))) gNil)))) rfl sc_Net_doors.nd (pi_enum (by rfl) T.z_enumerate (pa_cons (fldK (K := K) rfl (pv 0) rfl) pa_nil)) (blkOk_by (N := n_Net_doors) (sc := defScope s_Net_doors) (by decide +kernel)) (fun _ _ _ _ _ => (pg_tup rfl (pgs_cons (pg_name (i := 2) sc_Net_doors.nd rfl (Or.inl rfl)) (pgs_cons (pg_tup rfl (pgs_cons (pg_name (i := 3) sc_Net_doors.nd rfl (Or.inl rfl)) (pgs_cons (pg_name (i := 4) sc_Net_doors.nd rfl (Or.inl rfl)) (pgs_cons (pg_name (i := 5) sc_Net_doors.nd rfl (Or.inl rfl)) pgs_nil)))) pgs_nil)))) (fun _ _ _ _ _ => (pts_one (pt_cmpR (op_inK (K := K) rfl) (pv 1) (pe_tup (pa_cons (pv 3) (pa_cons (pv 4) pa_nil))) (by rfl)))) (fun _ _ _ _ _ => (pv 2)))))), ?_⟩
    obtain ⟨dxn, h, r', l, ts, hn, hh, hr1, hl, hrs⟩ := id hN.ex
    obtain ⟨t, ht⟩ := hy.any
    refine ⟨_, rfl, _, t, rfl, ht, _, rfl, ?_⟩
    by_cases et : t = "int"
    · subst et
      obtain ⟨i, rfl⟩ := int_of ht
      refine iteF ⟨_, rfl, _, rfl, n, T.c_Net, dxn, _, _, rfl, eB _ _ hn, T.cl_Net, T.n_Net__rising, nf_r _ _ _, r', _, rfl, .inl (SqL.of (eB _ _ hr1)), rfl, flat_ints qs, _, rfl, ?_⟩
      rw [inV_ints, decide_eq_false (fun z => hno ⟨i, rfl, z⟩)]
      exact iteT (mk_rfz rfl hy q)
    · rw [beq_eq_false_iff_ne.mpr et]
      exact iteT (mk_rfz rfl hy q)
end
end K03

set_option maxHeartbeats 4000000
namespace K03
open PySem PySem.Spec PyProof.Rows L2 Evl MyG
/-- what is written of the exceptions -/
structure Tz (P : Program) (K : PySem.W.Frag) (mg : Str → Option Value) (T : Tx K mg) where
  fL : Addr
  ccL : Addr
  cL : Addr
  dL : FuncData
  XL : ExI P K mg "NoLink" s_NoLink___init__ "NoLink.__init__" T.c_NoLink fL ccL cL dL
  fH : Addr
  ccH : Addr
  cH : Addr
  dH : FuncData
  XH : ExI P K mg "NoHall" s_NoHall___init__ "NoHall.__init__" T.c_NoHall fH ccH cH dH
  eL : ExcC K T.c_NoLink
  eH : ExcC K T.c_NoHall
  xL : XfC K T.c_NoLink
  xH : XfC K T.c_NoHall
  mL : PySem.W.exmOne K (.ref T.c_NoLink) (.ref T.c_RingError) = some true
  mH : PySem.W.exmOne K (.ref T.c_NoHall) (.ref T.c_RingError) = some true
  kL : ∀ p ∈ [(T.c_Cut, false), (T.c_NoLetter, false), (T.c_Runs, false), (T.c_Stands, false), (T.c_Stopped, false), (T.c_NoLink, true), (T.c_NoHall, false)], PySem.W.kitOne K (.ref T.c_NoLink) (.ref p.1) = some p.2
  kH : ∀ p ∈ [(T.c_Cut, false), (T.c_NoLetter, false), (T.c_Runs, false), (T.c_Stands, false), (T.c_Stopped, false), (T.c_NoLink, false), (T.c_NoHall, true)], PySem.W.kitOne K (.ref T.c_NoHall) (.ref p.1) = some p.2
  vL : PySem.W.kitOne K (.ref T.c_NoLink) (.type "ValueError") = some true
  vH : PySem.W.kitOne K (.ref T.c_NoHall) (.type "ValueError") = some true
theorem Copy.fwd {H H1 H2 : Hp} {x y : V} (e : Ex H1 H2) (h : Copy H x H1 y) : Copy H x H2 y := by
  rcases h with h | ⟨a, xs, p, h1, h2, h3, h4⟩ | ⟨a, xs, p, h1, h2, h3, h4⟩ | ⟨a, xs, p, h1, h2, h3, h4⟩
  · exact .inl h
  · exact .inr (.inl ⟨a, xs, p, h1, h2, h3, e _ _ h4⟩)
  · exact .inr (.inr (.inl ⟨a, xs, p, h1, h2, h3, e _ _ h4⟩))
  · exact .inr (.inr (.inr ⟨a, xs, p, h1, h2, h3, e _ _ h4⟩))
def BadL (rs : List Row) (x : V) : Prop := ¬ ∃ k : Nat, x = .int (k : Int) ∧ k < rs.length
def Bad2 (r : Row) (y : V) : Prop := ¬ ∃ h, y = .int h ∧ (h = r.1 ∨ h = r.2.1)
def BadH (qs : List Int) (y : V) : Prop := ¬ ∃ h, y = .int h ∧ h ∈ qs
/-- what is owed: nothing, a link refused, a hall refused -/
def Owed (CL CH : Addr) (qs : List Int) (rs : List Row) (way : Int) (x y : V) (H : Hp) (Q : VK) (E : XK) : Prop :=
  (way < 2 ∧ BadL rs x ∧ Rfz CL x H E) ∨ (way = 0 ∧ (∃ (k : Nat) (r : Row), x = .int (k : Int) ∧ rs[k]? = some r ∧ Bad2 r y) ∧ Rfz CH y H E) ∨ (way = 2 ∧ BadH qs y ∧ Rfz CH y H E) ∨
  ((way = 0 → ∃ (k : Nat) (r : Row) (h : Int), x = .int (k : Int) ∧ rs[k]? = some r ∧ y = .int h ∧ (h = r.1 ∨ h = r.2.1)) ∧ (way = 1 → ∃ k : Nat, x = .int (k : Int) ∧ k < rs.length) ∧ (way = 2 → ∃ h, y = .int h ∧ h ∈ qs) ∧ ∀ v H', Ex H H' → Q v H')
def sp_called (CN CL CH : Addr) : Sp := fun vs H Q E => ∃ (n : Addr) (way : Int) (x y : V) (B : Hp) (ps qs : List Int) (rs : List Row), vs = [.ref n, .int way, x, y] ∧ 0 ≤ way ∧ way < 3 ∧ Ex B H ∧ NetAt CN B n ps qs rs ∧ rs.length ≤ 12 ∧ Thing H x ∧ Thing H y ∧ Owed CL CH qs rs way x y H Q E
section
variable {P : Program} {w : World} {K : PySem.W.Frag} {mg : Str → Option Value} {base : Heap}
theorem ok_called (T : Tx K mg) (Z : Tz P K mg T) : FnOk P w K mg base (L2.CX P w) 7 T.a_l_called T.d_l_called ["_law_net", "_law_way", "_law_road", "_law_place"] (sp_called T.c_Net T.c_NoLink T.c_NoHall) := by
  have G_Net_beyond := fn_or ((fn_lift (ok_nbeyond (P := P) (w := w) (base := base) T)).mono (by decide)) (ok_beyondX T Z.XL Z.XH)
  have G_Net_cost := fn_or ((fn_lift (ok_ncost (P := P) (w := w) (base := base) T)).mono (by decide)) (ok_costX T Z.XL)
  have G_Net_doors := fn_or ((fn_lift (ok_ndoors (P := P) (w := w) (base := base) T)).mono (by decide)) (ok_doorsX T Z.XH)
  refine T.F_l_called.okX sc_l_called (fun vs H Q E h => ?_) (fun cdv A outer s H vs Q E hr h => ?_)
  · obtain ⟨_, _, _, _, _, _, _, _, rfl, _⟩ := h
    rfl
  · obtain ⟨n, way, x, y, B, ps, qs, rs, rfl, w0, w3, eB, hN, h12, hx, hy, ho⟩ := h
    refine ⟨_, (pss_cons (ps_if (pt_cmpR op_eq (pv 1) pe_int (nomark _)) (pss_one (ps_ret (pe_meth (pv 0) T.cl_Net T.me_Net_beyond G_Net_beyond (hr.mono (by decide)) T.b_Net_beyond .nil (passes_call (takes_of rfl rfl rfl rfl) (fun _ _ _ _ h => h)) (pa_cons (pv 2) (pa_cons (pv 3) pa_nil))))) pss_nil)
  (pss_one (ps_ret (pe_ifExp (pt_cmpR op_eq (pv 1) pe_int (nomark _)) (pe_meth (pv 0) T.cl_Net T.me_Net_cost G_Net_cost (hr.mono (by decide)) T.b_Net_cost .nil (passes_call (takes_of rfl rfl rfl rfl) (fun _ _ _ _ h => h)) (pa_cons (pv 2) pa_nil)) (pe_meth (pv 0) T.cl_Net T.me_Net_doors G_Net_doors (hr.mono (by decide)) T.b_Net_doors .nil (passes_call (takes_of rfl rfl rfl rfl) (fun _ _ _ _ h => h)) (pa_cons (pv 3) pa_nil)))))), ?_⟩
    obtain ⟨dxn, hh0, r', l, ts, hn, hh, hr1, hl, hrs⟩ := id hN.ex
    have nm : ∀ {m : Str}, ¬ m = "_links" → ¬ m = "_rising" → ¬ m = "_handed" → (nf hh0 r' l).lookup m = none := fun h1 h2 h3 => nf_no _ _ _ h1 h2 h3
    refine ⟨_, rfl, rfl, _, rfl, ?_⟩
    by_cases c0 : way = 0
    · subst c0
      refine iteT ⟨_, rfl, n, dxn, _, rfl, eB _ _ hn, nm (by decide +kernel) (by decide +kernel) (by decide +kernel), _, rfl, _, rfl, ?_⟩
      rcases ho with ⟨_, hb, q⟩ | ⟨_, ⟨k, r, rfl, hk, hb⟩, q⟩ | ⟨c, _⟩ | ⟨h0, _, _, q⟩
      · exact .inr ⟨n, B, ps, qs, rs, x, y, rfl, eB, hN, h12, hx, hy, .inl ⟨hb, q⟩⟩
      · exact .inr ⟨n, B, ps, qs, rs, _, y, rfl, eB, hN, h12, hx, hy, .inr ⟨k, r, rfl, hk, hb, q⟩⟩
      · exact absurd c (by decide)
      · obtain ⟨k, r, h, rfl, hk, rfl, hor⟩ := h0 rfl
        exact .inl ⟨n, B, ps, qs, rs, k, r, h, rfl, eB, hN, hk, h12, hor, fun H' e => q _ H' e⟩
    · rw [decide_eq_false (fun z => c0 (V.int.inj z))]
      refine iteF ⟨_, rfl, rfl, _, rfl, ?_⟩
      by_cases c1 : way = 1
      · subst c1
        refine iteT ⟨_, rfl, n, dxn, _, rfl, eB _ _ hn, nm (by decide +kernel) (by decide +kernel) (by decide +kernel), _, rfl, ?_⟩
        rcases ho with ⟨_, hb, q⟩ | ⟨c, _⟩ | ⟨c, _⟩ | ⟨_, h1, _, q⟩
        · exact .inr ⟨n, B, ps, qs, rs, x, rfl, eB, hN, h12, hx, hb, q⟩
        · exact absurd c (by decide)
        · exact absurd c (by decide)
        · obtain ⟨k, rfl, hk⟩ := h1 rfl
          exact .inl ⟨n, B, ps, qs, rs, k, rs[k], rfl, eB, hN, List.getElem?_eq_getElem hk, h12, fun H' e => q _ H' e⟩
      · obtain rfl : way = 2 := by omega
        rw [decide_eq_false (fun z => c1 (V.int.inj z))]
        refine iteF ⟨_, rfl, n, dxn, _, rfl, eB _ _ hn, nm (by decide +kernel) (by decide +kernel) (by decide +kernel), _, rfl, ?_⟩
        rcases ho with ⟨c, _⟩ | ⟨c, _⟩ | ⟨_, hb, q⟩ | ⟨_, _, h2, q⟩
        · exact absurd c (by decide)
        · exact absurd c (by decide)
        · exact .inr ⟨n, B, ps, qs, rs, y, rfl, eB, hN, hy, hb, q⟩
        · obtain ⟨h, rfl, hm⟩ := h2 rfl
          exact .inl ⟨n, B, ps, qs, rs, h, rfl, eB, hN, hm, h12, fun p H' hp e _ => q _ H' e⟩
/-- what is told of a call: None, or the word and the thing -/
def sp_tried (CN : Addr) : Sp := fun vs H Q _ => ∃ (n : Addr) (way : Int) (x y : V) (B : Hp) (ps qs : List Int) (rs : List Row), vs = [.ref n, .int way, x, y] ∧ 0 ≤ way ∧ way < 3 ∧ Ex B H ∧ NetAt CN B n ps qs rs ∧ rs.length ≤ 12 ∧ Thing H x ∧ Thing H y ∧
  ((way < 2 ∧ BadL rs x ∧ ∀ t z H', H t = none → Ex H H' → Copy H x H' z → H' t = some (.tup [.str "link", z]) → Q (.ref t) H') ∨
   (((way = 0 ∧ ∃ (k : Nat) (r : Row), x = .int (k : Int) ∧ rs[k]? = some r ∧ Bad2 r y) ∨ (way = 2 ∧ BadH qs y)) ∧ ∀ t z H', H t = none → Ex H H' → Copy H y H' z → H' t = some (.tup [.str "hall", z]) → Q (.ref t) H') ∨
   ((way = 0 → ∃ (k : Nat) (r : Row) (h : Int), x = .int (k : Int) ∧ rs[k]? = some r ∧ y = .int h ∧ (h = r.1 ∨ h = r.2.1)) ∧ (way = 1 → ∃ k : Nat, x = .int (k : Int) ∧ k < rs.length) ∧ (way = 2 → ∃ h, y = .int h ∧ h ∈ qs) ∧ ∀ H', Ex H H' → Q .non H'))
theorem ok_tried (T : Tx K mg) (Z : Tz P K mg T) : FnOk P w K mg base (L2.CX P w) 8 T.a_l_tried T.d_l_tried ["_law_net", "_law_way", "_law_road", "_law_place"] (sp_tried T.c_Net) := by
  have G_l_called := ok_called (P := P) (w := w) (base := base) T Z
  refine T.F_l_tried.okX sc_l_tried (fun vs H Q E h => ?_) (fun cdv A outer s H vs Q E hr h => ?_)
  · obtain ⟨_, _, _, _, _, _, _, _, rfl, _⟩ := h
    rfl
  · obtain ⟨n, way, x, y, B, ps, qs, rs, rfl, w0, w3, eB, hN, h12, hx, hy, ho⟩ := h
    refine ⟨_, (pss_cons (ps_set (i := 4) sc_l_tried.nd rfl (Or.inl rfl) pe_non)
  (pss_cons (ps_try_keep (i := 5) rfl rfl sc_l_tried.nd rfl rfl ⟨by rfl, by decide, .inl T.g_RingError⟩ (takes_of rfl rfl rfl rfl) (fun W pn xe tk po => (pss_one (ps_expr (pe_callS (E := WE W) G_l_called (hr.mono (by decide)) (by rfl) T.g_l_called T.F_l_called.kp T.b_l_called (fun σ => passAt tk σ) (pa_cons (pv 0) (pa_cons (pv 1) (pa_cons (pv 2) (pa_cons (pv 3) pa_nil))))))))
   (fun a oe cls d pn z kk => (pss_one (ps_set (i := 4) sc_l_tried.nd rfl (Or.inl rfl) (pv 5)))))
  (pss_cons (ps_if (pt_cmpR op_isN (pv 4) pe_non (nomark _)) (pss_one (ps_ret pe_non)) pss_nil)
  (pss_cons (ps_set (i := 6) sc_l_tried.nd rfl (Or.inl rfl) (pe_lst (pa_cons (pe_callB (call_isX (K := K) rfl) (by rfl) T.z_isinstance (by decide +kernel) (pa_cons (pv 4) (pa_cons (pe_glob (v := .ref T.c_Cut) rfl T.g_Cut rfl) pa_nil))) (pa_cons (pe_callB (call_isX (K := K) rfl) (by rfl) T.z_isinstance (by decide +kernel) (pa_cons (pv 4) (pa_cons (pe_glob (v := .ref T.c_NoLetter) rfl T.g_NoLetter rfl) pa_nil))) (pa_cons (pe_callB (call_isX (K := K) rfl) (by rfl) T.z_isinstance (by decide +kernel) (pa_cons (pv 4) (pa_cons (pe_glob (v := .ref T.c_Runs) rfl T.g_Runs rfl) pa_nil))) pa_nil)))))
  (pss_cons (ps_set (i := 6) sc_l_tried.nd rfl (Or.inl rfl) (pe_op op_cat (pv 6) (pe_lst (pa_cons (pe_callB (call_isX (K := K) rfl) (by rfl) T.z_isinstance (by decide +kernel) (pa_cons (pv 4) (pa_cons (pe_glob (v := .ref T.c_Stands) rfl T.g_Stands rfl) pa_nil))) (pa_cons (pe_callB (call_isX (K := K) rfl) (by rfl) T.z_isinstance (by decide +kernel) (pa_cons (pv 4) (pa_cons (pe_glob (v := .ref T.c_Stopped) rfl T.g_Stopped rfl) pa_nil))) pa_nil)))))
  (pss_cons (ps_set (i := 6) sc_l_tried.nd rfl (Or.inl rfl) (pe_op op_cat (pe_lst (pa_cons (pe_callB (call_isX (K := K) rfl) (by rfl) T.z_isinstance (by decide +kernel) (pa_cons (pv 4) (pa_cons (pe_glob (v := .ref T.c_NoLink) rfl T.g_NoLink rfl) pa_nil))) (pa_cons (pe_callB (call_isX (K := K) rfl) (by rfl) T.z_isinstance (by decide +kernel) (pa_cons (pv 4) (pa_cons (pe_glob (v := .ref T.c_NoHall) rfl T.g_NoHall rfl) pa_nil))) pa_nil))) (pv 6)))
  (pss_cons (ps_if (PW.pt (pw_or (pt_cmpR op_ne (pe_bm PySem.F.plainAttrs_list PySem.F.slot_list_count PySem.F.type_list_count mt_countF (pv 6) (pa_cons pe_bl pa_nil)) pe_int (nomark _)) (pw_or (pt_not (pt_val (pe_callB (call_isXT (K := K) rfl) (by rfl) T.z_isinstance (by decide +kernel) (pa_cons (pv 4) (pa_cons (pe_tup (pa_cons (pe_glob (v := .ref T.c_NoLink) rfl T.g_NoLink rfl) (pa_cons (pe_glob (v := .ref T.c_NoHall) rfl T.g_NoHall rfl) pa_nil))) pa_nil))))) (pw_or1 (pt_not (pt_val (pe_callB (call_isX (K := K) rfl) (by rfl) T.z_isinstance (by decide +kernel) (pa_cons (pv 4) (pa_cons (pe_bltn (v := .ty "ValueError") (by rfl) T.z_ValueError (by decide +kernel) rfl) pa_nil))))))))) (pss_one (ps_ret (pe_tup (pa_cons pe_str (pa_cons pe_non pa_nil))))) pss_nil)
  (pss_one (ps_ret (pe_tup (pa_cons (pe_ix (ix_listK (K := K) rfl) (pe_lst (pa_cons pe_str (pa_cons pe_str pa_nil))) (pe_bm PySem.F.plainAttrs_list PySem.F.slot_list_index PySem.F.type_list_index mt_index (pv 6) (pa_cons pe_bl pa_nil)) (fun _ _ => rfl)) (pa_cons (pe_xv (K := K) rfl (pv 4)) pa_nil)))))))))))), ?_⟩
    have split : (∃ (C : Addr) (b : Bool) (u : V), Thing H u ∧ ExcC K C ∧ XfC K C ∧ PySem.W.exmOne K (.ref C) (.ref T.c_RingError) = some true ∧ PySem.W.kitOne K (.ref C) (.type "ValueError") = some true ∧ PySem.W.findIn K (.ref C) "number" = some none ∧
        (∀ p ∈ [(T.c_Cut, false), (T.c_NoLetter, false), (T.c_Runs, false), (T.c_Stands, false), (T.c_Stopped, false), (T.c_NoLink, b), (T.c_NoHall, !b)], PySem.W.kitOne K (.ref C) (.ref p.1) = some p.2) ∧
        (∀ (Q' : VK) (E' : XK), Rfz C u H E' → sp_called T.c_Net T.c_NoLink T.c_NoHall [.ref n, .int way, x, y] H Q' E') ∧
        (∀ t z H', H t = none → Ex H H' → Copy H u H' z → H' t = some (.tup [.str (if b then "link" else "hall"), z]) → Q (.ref t) H')) ∨
        ((∀ (Q' : VK) (E' : XK), (∀ v H', Ex H H' → Q' v H') → sp_called T.c_Net T.c_NoLink T.c_NoHall [.ref n, .int way, x, y] H Q' E') ∧ ∀ H', Ex H H' → Q .non H') := by
      rcases ho with ⟨c, hb, q⟩ | ⟨hc, q⟩ | ⟨h0, h1, h2, q⟩
      · exact .inl ⟨T.c_NoLink, true, x, hx, Z.eL, Z.xL, Z.mL, Z.vL, Z.XL.no, Z.kL, fun Q' E' r => ⟨n, way, x, y, B, ps, qs, rs, rfl, w0, w3, eB, hN, h12, hx, hy, .inl ⟨c, hb, r⟩⟩, q⟩
      · refine .inl ⟨T.c_NoHall, false, y, hy, Z.eH, Z.xH, Z.mH, Z.vH, Z.XH.no, Z.kH, fun Q' E' r => ⟨n, way, x, y, B, ps, qs, rs, rfl, w0, w3, eB, hN, h12, hx, hy, ?_⟩, q⟩
        rcases hc with ⟨c, z⟩ | ⟨c, z⟩
        · exact .inr (.inl ⟨c, z, r⟩)
        · exact .inr (.inr (.inl ⟨c, z, r⟩))
      · exact .inr ⟨fun Q' E' r => ⟨n, way, x, y, B, ps, qs, rs, rfl, w0, w3, eB, hN, h12, hx, hy, .inr (.inr (.inr ⟨h0, h1, h2, r⟩))⟩, q⟩
    rcases split with ⟨C, b, u, hu, ec, xc, mc, vc, no, kt, hcall, q⟩ | ⟨hcall, q⟩
    · refine ⟨_, rfl, _, rfl, _, rfl, _, rfl, hcall _ _ fun dx z H1 e1 hdx hx1 hz => ⟨true, mc, fun _ a ha => ⟨_, rfl, ?_⟩, fun z => nomatch z⟩⟩
      have eH : Ex H1 (upd H1 a (XO a (.ref C) (some dx))) := Ex.new ha
      have hXO : (upd H1 a (XO a (.ref C) (some dx))) a = some (XO a (.ref C) (some dx)) := upd_same
      have hxd := eH _ _ hx1
      have hE : ExcAt (upd H1 a (XO a (.ref C) (some dx))) a C (some dx) := ⟨hXO, .inr ⟨dx, _, rfl, hxd⟩⟩
      have hZ := hz.fwd eH
      have e2 := e1.trans eH
      unfold gName
      dsimp only
      show tSeq _ _ _ [some (.ref n), some (.int way), some x, some y, some (.ref a), none, none] (upd H1 a (XO a (.ref C) (some dx)))
      generalize upd H1 a (XO a (.ref C) (some dx)) = H2 at hXO hxd hE hZ e2 ⊢
      have k1 : ∀ {D : Addr} {c : Bool}, (D, c) ∈ [(T.c_Cut, false), (T.c_NoLetter, false), (T.c_Runs, false), (T.c_Stands, false), (T.c_Stopped, false), (T.c_NoLink, b), (T.c_NoHall, !b)] → PySem.W.kitOne K (.ref C) (.ref D) = some c := fun {D c} h => kt (D, c) h
      refine q_when (b := false) (et_test (ev_is (ev_isN (ev_var rfl)) (by rw [decide_eq_false (fun z => nomatch z)]))) (fun z => nomatch z) fun _ H3 e3 => ?_
      have hE3 := hE.ext e3
      refine q_asgL (el_lst (ea_cons (ev_isX (ev_var rfl) hE3 ec (b := false) (k1 (by simp))) (ea_cons (ev_isX (ev_var rfl) hE3 ec (b := false) (k1 (by simp))) (ea_cons (ev_isX (ev_var rfl) hE3 ec (b := false) (k1 (by simp))) ea_nil))) (by show 3 ≤ 100000; decide)) fun p4 H4 hp4 e4 h4 => ?_
      have hE4 := hE3.ext e4
      refine q_asgL (el_cat (ev_var rfl) h4 (fun H5 e5 => el_lst (ea_cons (ev_isX (ev_var rfl) (hE4.ext e5) ec (b := false) (k1 (by simp))) (ea_cons (ev_isX (ev_var rfl) (hE4.ext e5) ec (b := false) (k1 (by simp))) ea_nil)) (by show 2 ≤ 100000; decide)) (by show 3 + 2 ≤ 1000; decide)) fun p5 H5 hp5 e5 h5 => ?_
      have hE5 := hE4.ext e5
      refine q_asgL (el_catV (el_lst (ea_cons (ev_isX (ev_var rfl) hE5 ec (b := b) (k1 (by simp))) (ea_cons (ev_isX (ev_var rfl) hE5 ec (b := !b) (k1 (by simp))) ea_nil)) (by show 2 ≤ 100000; decide)) (ev_var rfl) h5 (by show 2 + 5 ≤ 1000; decide)) fun p6 H6 hp6 e6 h6 => ?_
      have hE6 := hE5.ext e6
      have e26 := ((e3.trans e4).trans e5).trans e6
      show tSeq _ _ _ [some (.ref n), some (.int way), some x, some y, some (.ref a), none, some (.ref p6)] H6
      refine q_when (b := false) (et_or (a := false) (b := false) (et_is (et_test (ev_op (ev_count (ev_var rfl) h6 rfl rfl) ev_c (rv_ne rfl))) (by cases b <;> decide)) fun _ => et_or (a := false) (b := false) (et_not (a := true) (et_B (ev_is (ev_isX2 (b1 := b) (b2 := !b) (ev_var rfl) hE6 ec (k1 (by simp)) (k1 (by simp))) (by cases b <;> rfl)))) fun _ => et_not (a := true) (et_B (ev_isXt (ev_var rfl) hE6 ec vc))) (fun z => nomatch z) fun _ H7 e7 => ?_
      have e27 := e26.trans e7
      have h7 := e7 _ _ h6
      refine s_retU (eu_tup (ea_cons (ev_lst_ix (xs := [V.str "link", .str "hall"]) (j := if b then 0 else 1) (v := .str (if b then "link" else "hall")) (el_lst (ea_cons ev_c (ea_cons ev_c ea_nil)) (by show 2 ≤ 100000; decide)) (fun H8 e8 => ev_index (z := .bl true) (ev_var rfl) (e8 _ _ h7) rfl rfl (by cases b <;> rfl) rfl (by
        cases b with
        | true => intro m z' hm; exact absurd hm (Nat.not_lt_zero _)
        | false =>
          intro m z' hm hz'
          obtain rfl : m = 0 := by
            have : m < 1 := hm
            omega
          obtain rfl := Option.some.inj hz'
          rfl)) (by cases b <;> rfl)) (ea_cons (ev_xv (ev_var rfl) (e27 _ _ hXO) (e27 _ _ hxd) xc no rfl) ea_nil)) (by show 2 ≤ 100000; decide)) fun t H8 ht e8 h8 => ?_
      exact q t z H8 (fresh_back (e2.trans e27) ht) ((e2.trans e27).trans e8) ((hZ.fwd e27).fwd e8) h8
    · refine ⟨_, rfl, _, rfl, _, rfl, _, rfl, hcall _ _ fun v H1 e1 => ?_⟩
      show tSeq _ _ _ [some (.ref n), some (.int way), some x, some y, some .non, none, none] H1
      exact q_if (b := true) (et_test (ev_is (ev_isN (ev_var rfl)) rfl)) (fun _ H2 e2 => s_ret ev_c fun H3 e3 => q H3 ((e1.trans e2).trans e3)) (fun z => nomatch z)
end
end K03

set_option maxHeartbeats 400000
namespace K03
open PySem PySem.Spec PyProof.Rows L2 Evl MyG
/-- data of a thing -/
def TD (B : Hp) (x : V) (D : PyData) : Prop := (Dq B x D ∧ Small D 1 60) ∨ ∃ a kvs ds, x = .ref a ∧ B a = some (.dK kvs) ∧ FlAll kvs ds ∧ D = .dict ds ∧ (ds = [] ∨ ds = [(.int 1, .int 1)])
structure Good (B : Hp) (x : V) : Prop where
  th : Thing B x
  td : ∃ D, TD B x D
theorem Good.ext {B B' : Hp} {x : V} (e : Ex B B') (h : Good B x) : Good B' x := ⟨h.th.ext e, by
  obtain ⟨D, h | ⟨a, kvs, ds, h1, h2, h3⟩⟩ := h.td
  · exact ⟨D, .inl ⟨h.1.ext e, h.2⟩⟩
  · exact ⟨D, .inr ⟨a, kvs, ds, h1, e _ _ h2, h3⟩⟩⟩
theorem small_big {i : Int} (h : i.natAbs ≤ 10 ^ 30) : Small (.int i) 0 50 := by
  have h9 : i.natAbs < 2 ^ 1920 := Nat.lt_of_le_of_lt h (by decide +kernel)
  refine ⟨?_, rfl, Nat.le_refl _, ?_, rfl⟩
  · simp only [PyData.showable]
    refine decide_eq_true ?_
    by_cases z : i.natAbs = 0
    · rw [z]; decide
    · exact (Nat.log2_lt z).mpr h9
  · simp only [PyData.shown]
    have := int_text_length_le10 (a := i) (k := 40) (by decide) (Nat.lt_of_le_of_lt h (by decide))
    rw [PySem.ofString_length]
    exact Nat.le_trans this (by decide)
theorem good_int {B : Hp} {i : Int} (h : i.natAbs ≤ 10 ^ 30) : Good B (.int i) := ⟨.inl ⟨_, .int i, by decide, by decide, by decide⟩, _, .inl ⟨.int i, (small_big h).mono (by decide) (by decide)⟩⟩
/-- an expression that makes a good thing, whatever else is known -/
def EvG (s c : Addr) (te : TE) (σ : L2.St) : Prop := ∀ B1 H1, Wd s c B1 H1 → ∀ Q : VK, (∀ x B2 H2, Ex B1 B2 → Wd s c B2 H2 → Good B2 x → Q x H2) → te σ H1 Q
def EvGA (s c : Addr) (ta : TA) (σ : L2.St) (n : Nat) : Prop := ∀ B1 H1, Wd s c B1 H1 → ∀ Q : List V → Hp → Prop, (∀ xs B2 H2, Ex B1 B2 → Wd s c B2 H2 → xs.length = n → (∀ x ∈ xs, Good B2 x) → Q xs H2) → ta σ H1 Q
section
variable {s c : Addr} {σ : L2.St} {te : TE} {ta : TA} {n : Nat}
theorem Wd.new {B H : Hp} {p : Addr} {o : HO} (W : Wd s c B H) (hp : H p = none) : Wd s c (upd B p o) (upd H p o) := (W.ext (Ex.new hp)).know upd_same (W.st.ne_s hp) (W.st.ne_c hp)
theorem eg_run {B H : Hp} {Q : List V → Hp → Prop} (h : EvGA s c ta σ n) (W : Wd s c B H) (k : ∀ xs B2 H2, Ex B B2 → Wd s c B2 H2 → xs.length = n → (∀ x ∈ xs, Good B2 x) → Q xs H2) : ta σ H Q := h B H W Q k
theorem eg_nil : EvGA s c tNil σ 0 := fun B1 H1 W Q q => q [] B1 H1 (Ex.refl _) W rfl (fun x h => nomatch h)
theorem eg_cons (h : EvG s c te σ) (hr : EvGA s c ta σ n) : EvGA s c (tCons te ta) σ (n + 1) := fun B1 H1 W Q q => h B1 H1 W _ fun x B2 H2 e2 W2 hx => hr B2 H2 W2 _ fun xs B3 H3 e3 W3 hl hs => q _ B3 H3 (e2.trans e3) W3 (by rw [List.length_cons, hl]) fun y hy => by
  rcases List.mem_cons.mp hy with rfl | hy
  · exact hx.ext e3
  · exact hs y hy
theorem eg_c {v : V} (h : ∀ B, Good B v) : EvG s c (tC v) σ := fun B1 H1 W Q q => q v B1 H1 (Ex.refl _) W (h B1)
theorem eg_ev {v : V} (h : ∀ H, Ev te σ H v) (k : ∀ B, Good B v) : EvG s c te σ := fun B1 H1 W Q q => h H1 H1 (Ex.refl _) Q fun H2 e2 => q v B1 H2 (Ex.refl _) (W.ext e2) (k B1)
theorem flatInt {B : Hp} (i : Int) : Flat B (.int i) := ⟨_, .int i, by decide, by decide, by decide⟩
theorem small_l1 : Small (.list [.int 1]) 1 60 := (small_list (k := 0) (L := 10) (ds := [.int 1]) (fun d hd => by
  obtain rfl := List.mem_singleton.mp hd
  exact small_int (by decide))).mono (by decide) (by decide)
theorem small_t1 : Small (.tuple [.int 1]) 1 60 := (small_tuple (k := 0) (L := 10) (ds := [.int 1]) (fun d hd => by
  obtain rfl := List.mem_singleton.mp hd
  exact small_int (by decide))).mono (by decide) (by decide)
theorem small_l0 : Small (.list []) 1 60 := (small_list (k := 0) (L := 10) (ds := []) (fun d hd => nomatch hd)).mono (by decide) (by decide)
theorem small_t0 : Small (.tuple []) 1 60 := (small_tuple (k := 0) (L := 10) (ds := []) (fun d hd => nomatch hd)).mono (by decide) (by decide)
theorem eg_lst {xs : List V} {ds : List PyData} (h : ∀ H, EvA ta σ H xs) (hl : xs.length ≤ 1000) (hf : ∀ B, ∀ y ∈ xs, Flat B y) (hd : ∀ B, DqAll B xs ds) (sm : Small (.list ds) 1 60) : EvG s c (tLst ta) σ := fun B1 H1 W Q q => h H1 H1 (Ex.refl _) _ fun H2 e2 => ⟨Nat.le_trans hl (by decide), fun p hp => by
  have W2 := W.ext e2
  exact q _ _ _ (ex_know (W2.none_of hp)) (W2.new hp) ⟨.inr (.inl ⟨p, xs, rfl, upd_same, hl, hf _⟩), _, .inl ⟨.lst upd_same (hd _), sm⟩⟩⟩
theorem eg_tup {xs : List V} {ds : List PyData} (h : ∀ H, EvA ta σ H xs) (hl : xs.length ≤ 1000) (hf : ∀ B, ∀ y ∈ xs, Flat B y) (hd : ∀ B, DqAll B xs ds) (sm : Small (.tuple ds) 1 60) : EvG s c (tTup ta) σ := fun B1 H1 W Q q => h H1 H1 (Ex.refl _) _ fun H2 e2 => ⟨Nat.le_trans hl (by decide), fun p hp => by
  have W2 := W.ext e2
  exact q _ _ _ (ex_know (W2.none_of hp)) (W2.new hp) ⟨.inr (.inr (.inl ⟨p, xs, rfl, upd_same, hl, hf _⟩)), _, .inl ⟨.tup upd_same (hd _), sm⟩⟩⟩
theorem eg_d0 : EvG s c tDNewK σ := fun B1 H1 W Q q => fun p hp => q _ _ _ (ex_know (W.none_of hp)) (W.new hp) ⟨.inr (.inr (.inr ⟨p, [], rfl, upd_same, by decide, List.nodup_nil, fun _ h => nomatch h⟩)), _, .inr ⟨p, [], [], rfl, upd_same, .nil, rfl, .inl rfl⟩⟩
theorem eg_d1 : EvG s c (tDisp [(tC (V.int 1), tC (V.int 1))]) σ := fun B1 H1 W Q q => fun p hp => by
  refine ⟨upd_same, [(.inl 1, .int 1)], rfl, by decide, ?_⟩
  have e : upd (upd H1 p (.dK [])) p (.dK (mergeK [] [((.inl 1 : Key), V.int 1)])) = upd H1 p (.dK [(.inl 1, .int 1)]) := by
    funext b
    by_cases z : b = p
    · rw [z, upd_same, upd_same]; rfl
    · rw [upd_ne z, upd_ne z, upd_ne z]
  rw [e]
  exact q _ _ _ (ex_know (W.none_of hp)) (W.new hp) ⟨.inr (.inr (.inr ⟨p, _, rfl, upd_same, by decide, by simp, fun kv h => by
    obtain rfl := List.mem_singleton.mp h
    exact flatInt 1⟩)), _, .inr ⟨p, _, [(.int 1, .int 1)], rfl, upd_same, .cons ⟨rfl, .int 1⟩ .nil, rfl, .inr rfl⟩⟩
theorem good_non {B : Hp} : Good B .non := ⟨.inl ⟨_, .non, by decide, by decide, by decide⟩, _, .inl ⟨.non, ⟨by decide +kernel, by decide +kernel, by decide +kernel, by decide +kernel, by decide +kernel⟩⟩⟩
theorem good_bl {B : Hp} (b : Bool) : Good B (.bl b) := ⟨.inl ⟨_, .bl b, by decide, by decide, by decide⟩, _, .inl ⟨.bl b, (small_bool b).mono (by decide) (by decide)⟩⟩
theorem good_str {B : Hp} {x : Str} (h : Small (.str x) 0 50) : Good B (.str x) := ⟨.inl ⟨_, .str x, by decide, by decide, by decide⟩, _, .inl ⟨.str x, h.mono (by decide) (by decide)⟩⟩
end
theorem shaped_ints (ns : List Int) : SeqAt.shaped (.list (ns.map PyData.int)) = true := by
  have cl : PyData.canLay0 (.list (ns.map PyData.int)) = true := by
    simp only [PyData.canLay0]
    induction ns with
    | nil => rfl
    | cons x r ih => simp only [List.map_cons, PyData.canLayAll0, PyData.canLay0, ih, Bool.and_self]
  have dp : PyData.depthAll (ns.map PyData.int) = 0 := by
    induction ns with
    | nil => rfl
    | cons x r ih => 
      have := ih (by simp only [List.map_cons, PyData.canLay0, PyData.canLayAll0, Bool.and_eq_true] at cl ⊢; exact cl.2)
      simp only [List.map_cons, PyData.depthAll, PyData.depth, this]; rfl
  unfold SeqAt.shaped
  rw [cl, decide_eq_true (show PyData.depth (.list (ns.map PyData.int)) ≤ 64 by simp only [PyData.depth, dp]; decide)]
  rfl
def sp_isn2 : Sp := fun vs H Q _ => ∃ (x : V) (t : String) (a : Addr) (ms : List Int), vs = [x, .ref a] ∧ AnyT H x t ∧ (H a = some (.lst (ms.map V.int)) ∨ H a = some (.tup (ms.map V.int))) ∧
  (((∃ i, x = .int i ∧ i ∈ ms) ∧ ∀ H', Ex H H' → Q (.bl true) H') ∨ ((¬ ∃ i, x = .int i ∧ i ∈ ms) ∧ ∀ H', Ex H H' → Q (.bl false) H'))
def sp_thing : Sp := fun vs H Q _ => ∃ (s c m : Addr) (B : Hp) (ms : List Int), vs = [.ref s, .ref m] ∧ Wd s c B H ∧ B m = some (.lst (ms.map V.int)) ∧ ms.length ≤ 100 ∧ (∀ x ∈ ms, x.natAbs ≤ 10 ^ 30) ∧ ∀ x B' H', Ex B B' → Good B' x → Wd s c B' H' → Q x H'
section
variable {P : Program} {w : World} {K : PySem.W.Frag} {mg : Str → Option Value} {base : Heap}
theorem ok_isn2 (T : Tx K mg) : FnOk P w K mg base CX0 1 T.a_l_is_number T.d_l_is_number ["_law_thing_here", "_law_some"] sp_isn2 := by
  refine T.F_l_is_number.ok sc_l_is_number (fun vs H Q E h => ?_) (fun cdv A outer s H vs Q E hr h => ?_)
  · obtain ⟨_, _, _, _, rfl, _⟩ := h
    rfl
  · obtain ⟨x, t, a, ms, rfl, ht, ha, hq⟩ := h
    refine ⟨_, (pss_one (ps_ret (pe_and (pe_callB (isiK (K := K) rfl) (by rfl) T.z_isinstance (by decide +kernel) (pa_cons (pv 0) (pa_cons (pe_bltn (v := .ty "int") (by rfl) T.z_int (by decide +kernel) rfl) pa_nil))) (pe_and (pe_not (pe_callB (isiK (K := K) rfl) (by rfl) T.z_isinstance (by decide +kernel) (pa_cons (pv 0) (pa_cons (pe_bltn (v := .ty "bool") (by rfl) T.z_bool (by decide +kernel) rfl) pa_nil)))) (pe_one (pe_cmpR (op_inK (K := K) rfl) (pv 0) (pv 1) (by rfl))))))), ?_⟩
    have hin : ∀ {H1 : Hp}, Ex H H1 → ∀ i, x = .int i → Ev (tOp (rIn K false) (tVar 0) (tVar 1)) [some x, some (.ref a)] H1 (.bl (decide (i ∈ ms))) := fun {H1} e i hi => by
      subst hi
      rcases ha with ha | ha
      · exact ev_is (ev_op (ev_var rfl) (ev_var rfl) (rv_isL (SqL.of (e _ _ ha)) rfl (flat_ints ms))) (by rw [inV_ints])
      · exact ev_is (ev_op (ev_var rfl) (ev_var rfl) (rv_isT (SqT.of (e _ _ ha)) rfl (flat_ints ms))) (by rw [inV_ints])
    by_cases et : t = "int"
    · subst et
      obtain ⟨i, rfl⟩ := int_of ht
      have e := ev_andV (ev_isi_int (K := K) (te := tVar 0) (σ := [some (.int i), some (.ref a)]) (H := H) (ev_var rfl) (.int i)) fun _ => ev_andV (ev_notV (ev_isi_bool (K := K) (te := tVar 0) (σ := [some (.int i), some (.ref a)]) (H := H) (ev_var rfl) (.int i))) fun _ => hin (Ex.refl _) i rfl
      rcases hq with ⟨⟨z, hz, hm⟩, q⟩ | ⟨hno, q⟩
      · cases hz
        exact s_ret (ev_is e (by rw [decide_eq_true hm]; rfl)) q
      · exact s_ret (ev_is e (by rw [decide_eq_false (fun z => hno ⟨i, rfl, z⟩)]; rfl)) q
    · have hno : ¬ ∃ i, x = .int i ∧ i ∈ ms := fun ⟨i, hi, _⟩ => by
        subst hi
        cases ht
        exact et rfl
      rcases hq with ⟨z, _⟩ | ⟨_, q⟩
      · exact absurd z hno
      · by_cases eb : t = "bool"
        · subst eb
          exact s_ret (ev_is (ev_andV (a := true) (b := false) (ev_isi_int (ev_var rfl) ht) fun _ => ev_is (ev_andV (a := false) (b := false) (ev_is (ev_notV (ev_isi_bool (ev_var rfl) ht)) rfl) (fun z => nomatch z)) rfl) rfl) q
        · exact s_ret (ev_is (ev_andV (a := false) (b := false) (ev_is (ev_isi_int (ev_var rfl) ht) (by rw [beq_eq_false_iff_ne.mpr et, beq_eq_false_iff_ne.mpr eb]; rfl)) (fun z => nomatch z)) rfl) q
theorem ok_thing (T : Tx K mg) : FnOk P w K mg base CX0 2 T.a_l_thing T.d_l_thing ["_law_state_here", "_law_some"] sp_thing := by
  have G_l_draw := ok_draw (P := P) (w := w) (base := base) T
  refine T.F_l_thing.ok sc_l_thing (fun vs H Q E h => ?_) (fun cdv A outer s H vs Q E hr h => ?_)
  · obtain ⟨_, _, _, _, _, rfl, _⟩ := h
    rfl
  · obtain ⟨s, c, m, B, ms, rfl, W, hm, hl, hb, q⟩ := h
    refine ⟨_, (pss_cons (ps_set (i := 2) sc_l_thing.nd rfl (Or.inl rfl) (pe_lst (pa_cons pe_non (pa_cons pe_bl (pa_cons pe_bl (pa_cons (pe_un un_neg pe_int) (pa_cons pe_int (pa_cons pe_int (pa_cons pe_int (pa_cons pe_int (pa_cons pe_int (pa_cons pe_int (pa_cons pe_int (pa_cons (pe_op op_pow pe_int pe_int) (pa_cons pe_str (pa_cons pe_str (pa_cons (pe_lst pa_nil) (pa_cons (pe_lst (pa_cons pe_int pa_nil)) (pa_cons (pe_tup pa_nil) (pa_cons (pe_tup (pa_cons pe_int pa_nil)) (pa_cons pe_dnewK (pa_cons (pe_disp (pps_cons pe_int pe_int pps_nil) (by rfl) (by rfl) (fun z => by cases z) (by decide)) pa_nil))))))))))))))))))))))
  (pss_cons (ps_if (PW.pt (pw_and (pt_cmpR op_eq (pe_call G_l_draw (hr.mono (by decide)) (by rfl) T.g_l_draw T.F_l_draw.kp T.b_l_draw .nil pass0 (pa_cons (pv 0) (pa_cons pe_int pa_nil))) pe_int (nomark _)) (pw_and1 (pt_cmpR (op_neK (K := K) rfl hr.units) (pv 1) (pe_lst pa_nil) (nomark _))))) (pss_one (ps_ret (pe_ix (ix_listK (K := K) rfl) (pv 1) (pe_call G_l_draw (hr.mono (by decide)) (by rfl) T.g_l_draw T.F_l_draw.kp T.b_l_draw .nil pass0 (pa_cons (pv 0) (pa_cons (pe_callB (lenK (K := K) rfl) (by rfl) T.z_len (by decide +kernel) (pa_cons (pv 1) pa_nil)) pa_nil))) (fun _ _ => rfl)))) pss_nil)
  (pss_one (ps_ret (pe_ix (ix_listK (K := K) rfl) (pv 2) (pe_call G_l_draw (hr.mono (by decide)) (by rfl) T.g_l_draw T.F_l_draw.kp T.b_l_draw .nil pass0 (pa_cons (pv 0) (pa_cons pe_int pa_nil))) (fun _ _ => rfl)))))), ?_⟩
    refine un_seq (un_asg (un_lst ?_))
    refine eg_run (n := 20) ?_ W fun xs B1 H1 eB1 W1 hx20 hgood => ?_
    · exact eg_cons (eg_c fun _ => good_non) (eg_cons (eg_c fun _ => good_bl _) (eg_cons (eg_c fun _ => good_bl _) (eg_cons (eg_ev (fun H => ev_un ev_c ru_neg) fun _ => good_int (by decide)) (eg_cons (eg_c fun _ => good_int (by decide)) (eg_cons (eg_c fun _ => good_int (by decide)) (eg_cons (eg_c fun _ => good_int (by decide)) (eg_cons (eg_c fun _ => good_int (by decide)) (eg_cons (eg_c fun _ => good_int (by decide)) (eg_cons (eg_c fun _ => good_int (by decide)) (eg_cons (eg_c fun _ => good_int (by decide))
      (eg_cons (eg_ev (fun H => ev_op (r := rI CPow fun i j => V.int (i ^ j.toNat)) (x := .int 10) (y := .int 30) ev_c ev_c (rv_I ⟨by decide, by decide, by decide⟩)) fun _ => good_int (by decide)) (eg_cons (eg_c fun _ => good_str ⟨by decide +kernel, by decide +kernel, by decide +kernel, by decide +kernel, by decide +kernel⟩) (eg_cons (eg_c fun _ => good_str ⟨by decide +kernel, by decide +kernel, by decide +kernel, by decide +kernel, by decide +kernel⟩)
      (eg_cons (eg_lst (fun _ => ea_nil) (by decide) (fun _ _ h => nomatch h) (fun _ => .nil) small_l0) (eg_cons (eg_lst (fun _ => ea_cons ev_c ea_nil) (by decide) (fun _ y h => by obtain rfl := List.mem_singleton.mp h; exact flatInt 1) (fun _ => .cons (.int 1) .nil) small_l1)
      (eg_cons (eg_tup (fun _ => ea_nil) (by decide) (fun _ _ h => nomatch h) (fun _ => .nil) small_t0) (eg_cons (eg_tup (fun _ => ea_cons ev_c ea_nil) (by decide) (fun _ y h => by obtain rfl := List.mem_singleton.mp h; exact flatInt 1) (fun _ => .cons (.int 1) .nil) small_t1) (eg_cons eg_d0 (eg_cons eg_d1 eg_nil)))))))))))))))))))
    refine ⟨by rw [hx20]; decide, fun f hf => ?_⟩
    have W2 := W1.new (o := .lst xs) hf
    have eB2 : Ex B1 (upd B1 f (.lst xs)) := ex_know (W1.none_of hf)
    have hf2 : (upd B1 f (.lst xs)) f = some (.lst xs) := upd_same
    generalize upd H1 f (.lst xs) = H2 at W2 ⊢
    generalize upd B1 f (.lst xs) = B2 at W2 eB2 hf2
    have eB := eB1.trans eB2
    unfold gName
    dsimp only
    show (tSeq _ _) _ [some (.ref s), some (.ref m), some (.ref f)] H2
    have ret : ∀ {H3 : Hp}, Wd s c B2 H3 → (tRet (tOp (rIxL K) (tVar 2) (tCall sp_draw [] E0 (tCons (tVar 0) (tCons (tC (V.int 20)) tNil)))))
        { nx := fun x H' => Q V.non H', rt := Q } [some (.ref s), some (.ref m), some (.ref f)] H3 := fun {H3} W3 => by
      refine ⟨_, rfl, _, rfl, s, c, 20, rfl, W3.st, by decide, by decide, fun r H4 r0 r1 st4 off4 => ?_⟩
      have W4 := W3.off st4 off4
      have hlt : r.toNat < xs.length := by omega
      have er : r = (r.toNat : Int) := by omega
      exact ⟨f, xs, r, xs[r.toNat], rfl, rfl, SqL.of (W4.ex _ _ hf2), at_of (j := r.toNat) (by omega) (List.getElem?_eq_getElem hlt), q _ B2 H4 eB ((hgood _ (List.getElem_mem hlt)).ext eB2) W4⟩
    refine ⟨_, rfl, s, c, 2, rfl, W2.st, by decide, by decide, fun z H3 _ _ st3 off3 => ⟨rfl, _, rfl, ite2 (fun _ => ?_) (fun _ => iteF (ret (W2.off st3 off3)))⟩⟩
    have W3 := W2.off st3 off3
    have hm3 := W3.ex _ _ (eB _ _ hm)
    refine ⟨_, rfl, Nat.zero_le _, fun e he => ⟨.list (ms.map PyData.int), .list [], .lst (SqL.of (Ex.new he _ _ hm3)) (dp_ints _), .lst (SqL.of upd_same) .nil, shaped_ints ms, rfl, _, rfl, ite2 (fun hne => ?_) (fun _ => ret (W3.ext (Ex.new he)))⟩⟩
    have hpos : 0 < ms.length := by
      cases ms with
      | nil => exact absurd hne (by decide)
      | cons _ _ => exact Nat.succ_pos _
    have W4 := W3.ext (Ex.new (o := .lst []) he)
    have hm4 := W4.ex _ _ (eB _ _ hm)
    refine ⟨_, rfl, _, rfl, _, rfl, m, _, rfl, .inl (SqL.of hm4), s, c, _, rfl, W4.st, by rw [List.length_map]; omega, by rw [List.length_map]; omega, fun r H5 r0 r1 st5 off5 => ?_⟩
    have W5 := W4.off st5 off5
    obtain ⟨x, hx, hxa, hxm⟩ := ints_at (ns := ms) r0 (by rw [List.length_map] at r1; exact r1)
    exact ⟨m, _, r, _, rfl, rfl, SqL.of (W5.ex _ _ (eB _ _ hm)), hxa, q _ B2 H5 eB (good_int (hb x hxm)) W5⟩
end
end K03

set_option maxHeartbeats 1000000
namespace K03
open PySem PySem.Spec PyProof.Rows L2 Evl MyG
theorem td_copy {H H' : Hp} {u z : V} {D : PyData} (e : Ex H H') (h : TD H u D) (t : Thing H u) (c : Copy H u H' z) : TD H' z D := by
  rcases c with ⟨f, rfl⟩ | ⟨a, xs, p, rfl, ha, rfl, hp⟩ | ⟨a, xs, p, rfl, ha, rfl, hp⟩ | ⟨a, xs, p, rfl, ha, rfl, hp⟩
  · rcases h with ⟨h, s⟩ | ⟨a, kvs, ds, rfl, ha, r⟩
    · exact .inl ⟨h.ext e, s⟩
    · exact .inr ⟨a, kvs, ds, rfl, e _ _ ha, r⟩
  · rcases h with ⟨h, s⟩ | ⟨b, kvs, ds, hb, hh, r⟩
    · cases h with
      | lst h1 h2 =>
        rw [ha] at h1
        cases h1
        exact .inl ⟨.lst hp (h2.ext e), s⟩
      | tup h1 h2 =>
        rw [ha] at h1
        cases h1
    · cases hb
      rw [ha] at hh
      cases hh
  · rcases h with ⟨h, s⟩ | ⟨b, kvs, ds, hb, hh, r⟩
    · cases h with
      | lst h1 h2 =>
        rw [ha] at h1
        cases h1
      | tup h1 h2 =>
        rw [ha] at h1
        cases h1
        exact .inl ⟨.tup hp (h2.ext e), s⟩
    · cases hb
      rw [ha] at hh
      cases hh
  · rcases h with ⟨h, s⟩ | ⟨b, kvs, ds, hb, hh, r⟩
    · cases h with
      | lst h1 h2 =>
        rw [ha] at h1
        cases h1
      | tup h1 h2 =>
        rw [ha] at h1
        cases h1
    · cases hb
      rw [ha] at hh
      cases hh
      exact .inr ⟨p, _, ds, rfl, hp, r⟩
theorem un_nil {σ : L2.St} {H : Hp} {R : List V → Hp → Prop} (h : R [] H) : tNil σ H R := h
theorem small_non : Small .none 0 60 := ⟨by decide +kernel, by decide +kernel, by decide +kernel, by decide +kernel, by decide +kernel⟩
/-- repr of None -/
theorem rp0 {K : PySem.W.Frag} {te : TE} {σ : L2.St} {H : Hp} {Q : VK} (h : ∀ Q' : VK, (∀ H', Ex H H' → Q' .non H') → te σ H Q') (q : ∀ H', Ex H H' → Q (.str (PyData.shown .none)) H') : tEi (tCB (rReprD K) (tCons te tNil)) (tCB rReprP (tCons te tNil)) σ H Q :=
  .inl (h _ fun H' e => repr_ok (k := 0) (L := 60) .non small_non (by decide) (by decide) (q H' e))
/-- whether a thing is one of the numbers -/
def isnB (x : V) (ms : List Int) : Bool := match x with
  | .int i => decide (i ∈ ms)
  | _ => false
theorem isnB_iff {x : V} {ms : List Int} : isnB x ms = true ↔ ∃ i, x = .int i ∧ i ∈ ms := by
  unfold isnB
  cases x with
  | int i => exact ⟨fun h => ⟨i, rfl, of_decide_eq_true h⟩, fun ⟨j, h, m⟩ => by cases h; exact decide_eq_true m⟩
  | _ => exact ⟨fun h => (nomatch h), fun ⟨j, h, _⟩ => (nomatch h)⟩
theorem isnB_no {x : V} {ms : List Int} : isnB x ms = false ↔ ¬ ∃ i, x = .int i ∧ i ∈ ms := by
  rw [← isnB_iff]
  cases isnB x ms <;> simp
theorem ev_isn2 {te : TE} {σ : L2.St} {H : Hp} {i : Nat} {x : V} {t : String} {ms : List Int} (hi : σ[i]? = some (some x)) (ht : AnyT H x t) (hl : ∀ H1, Ex H H1 → ∀ Q : VK, (∀ p H2, Ex H1 H2 → (H2 p = some (.lst (ms.map V.int)) ∨ H2 p = some (.tup (ms.map V.int))) → Q (.ref p) H2) → te σ H1 Q) :
    Ev (tCall sp_isn2 [] E0 (tCons (tVar i) (tCons te tNil))) σ H (.bl (isnB x ms)) := fun H1 e Q q => ⟨_, hi, hl H1 e _ fun p H2 e2 hp => ⟨x, t, p, ms, rfl, ht.ext (e.trans e2), hp, by
  cases h : isnB x ms with
  | true => exact .inl ⟨isnB_iff.mp h, fun H3 e3 => by rw [h] at q; exact q H3 (e2.trans e3)⟩
  | false => exact .inr ⟨isnB_no.mp h, fun H3 e3 => by rw [h] at q; exact q H3 (e2.trans e3)⟩⟩⟩
def rgI (n : Nat) : List Int := (List.range n).map fun i : Nat => (i : Int)
theorem rgV_rgI (n : Nat) : rgV 0 (n : Int) = (rgI n).map V.int := by
  unfold rgV rgI
  rw [List.map_map, Int.sub_zero, Int.toNat_natCast]
  refine List.map_congr_left fun i _ => ?_
  show V.int (0 + (i : Int)) = V.int (i : Int)
  rw [Int.zero_add]
theorem rgI_mem {n : Nat} {x : Int} : x ∈ rgI n ↔ ∃ k : Nat, x = (k : Int) ∧ k < n := by
  unfold rgI
  rw [List.mem_map]
  exact ⟨fun ⟨k, h, e⟩ => ⟨k, e.symm, List.mem_range.mp h⟩, fun ⟨k, e, h⟩ => ⟨k, List.mem_range.mpr h, e.symm⟩⟩
theorem badL_iff {rs : List Row} {x : V} : isnB x (rgI rs.length) = false ↔ BadL rs x := by
  rw [isnB_no]
  refine not_congr ⟨fun ⟨i, h, m⟩ => ?_, fun ⟨k, h, m⟩ => ⟨k, h, rgI_mem.mpr ⟨k, rfl, m⟩⟩⟩
  obtain ⟨k, rfl, hk⟩ := rgI_mem.mp m
  exact ⟨k, h, hk⟩
theorem bad2_iff {r : Row} {y : V} : isnB y [r.1, r.2.1] = false ↔ Bad2 r y := by
  rw [isnB_no]
  exact not_congr ⟨fun ⟨i, h, m⟩ => ⟨i, h, by simpa using m⟩, fun ⟨i, h, m⟩ => ⟨i, h, by simpa using m⟩⟩
theorem badH_iff {ps qs : List Int} {y : V} (pm : qs.Perm ps) : isnB y ps = false ↔ BadH qs y := by
  rw [isnB_no]
  exact not_congr ⟨fun ⟨i, h, m⟩ => ⟨i, h, pm.mem_iff.mpr m⟩, fun ⟨i, h, m⟩ => ⟨i, h, pm.mem_iff.mp m⟩⟩
theorem copy_self {H : Hp} {x : V} (h : Thing H x) : Copy H x H x := by
  rcases h with h | ⟨a, xs, rfl, ha, _⟩ | ⟨a, xs, rfl, ha, _⟩ | ⟨a, xs, rfl, ha, _⟩
  · exact .inl ⟨h, rfl⟩
  · exact .inr (.inl ⟨a, xs, a, rfl, ha, rfl, ha⟩)
  · exact .inr (.inr (.inl ⟨a, xs, a, rfl, ha, rfl, ha⟩))
  · exact .inr (.inr (.inr ⟨a, xs, a, rfl, ha, rfl, ha⟩))
/-- repr of a word and a thing -/
theorem rp2 {K : PySem.W.Frag} {te : TE} {σ : L2.St} {H : Hp} {D : PyData} {w : Str} {Q : VK} (hw : w = "link" ∨ w = "hall") {B : Hp} {u0 : V} (hB : TD B u0 D) (h : ∀ Q' : VK, (∀ t z H', Ex H H' → TD H' z D → H' t = some (.tup [.str w, z]) → Q' (.ref t) H') → te σ H Q')
    (q : ∀ H', Ex H H' → Q (.str (PyData.tuple [.str w, D]).shown) H') : tEi (tCB (rReprD K) (tCons te tNil)) (tCB rReprP (tCons te tNil)) σ H Q := by
  have sw : Small (.str w) 0 50 := by
    rcases hw with rfl | rfl <;> exact ⟨by decide +kernel, by decide +kernel, by decide +kernel, by decide +kernel, by decide +kernel⟩
  rcases hB with ⟨_, s⟩ | ⟨_, _, ds, _, _, _, rfl, hds⟩
  · refine .inl (h _ fun t z H' e hz ht => ?_)
    rcases hz with ⟨hz, _⟩ | ⟨_, _, ds, _, _, _, rfl, _⟩
    · exact repr_ok (k := 2) (L := 500) (.tup (SqT.of ht) (.cons (.str _) (.cons hz.dp .nil))) ((small_tuple (k := 1) (L := 60) (fun d hd => by
        rcases List.mem_cons.mp hd with rfl | hd
        · exact sw.mono (by decide) (by decide)
        · obtain rfl := List.mem_singleton.mp hd
          exact s)).mono (by decide) (by show 2 * 62 + 3 ≤ 500; decide)) (by decide) (by decide) (q H' e)
    · exact absurd s.nd (by simp [PyData.hasDict])
  · refine .inr (h _ fun t z H' e hz ht => ?_)
    rcases hz with ⟨hz, _⟩ | ⟨b, kvs, ds', rfl, hb, hf, hd, _⟩
    · cases hz
    · cases hd
      refine ⟨t, b, .str w, .str w, kvs, ds, rfl, ht, hb, .str w, hf, ?_, ?_, ?_, q H' e⟩
      all_goals
        rcases hw with rfl | rfl <;> rcases hds with rfl | rfl <;> decide +kernel
section
variable {P : Program} {w : World} {K : PySem.W.Frag} {mg : Str → Option Value} {base : Heap}
theorem ok_law (T : Tx K mg) (Z : Tz P K mg T) : FnOkG P w K mg base CX0 14 T.a_law T.d_law ["_law_script"] (sp_law K) := by
  have G_l_state := ok_state (P := P) (w := w) (base := base) T
  have G_l_draw := ok_draw (P := P) (w := w) (base := base) T
  have G_l_places := ok_places (P := P) (w := w) (base := base) T
  have G_l_roads := ok_roads (P := P) (w := w) (base := base) T
  have G_l_thing := ok_thing (P := P) (w := w) (base := base) T
  have G_l_is_number := ok_isn2 (P := P) (w := w) (base := base) T
  have G_l_tried := ok_tried (P := P) (w := w) (base := base) T Z
  have G_Net___init__ := ok_init (P := P) (w := w) (base := base) T
  have G_Net_halls := ok_nhalls (P := P) (w := w) (base := base) T
  have G_Net_links := ok_nlinks (P := P) (w := w) (base := base) T
  refine okG T.F_law sc_law (fun vs H Q E h => ?_) (fun cdv A outer s H vs Q E hgd hr h => ?_)
  · obtain ⟨_, _, rfl, _⟩ := h
    rfl
  · obtain ⟨a, ns, rfl, hS, hlen, q⟩ := h
    refine ⟨_, (pss_cons (ps_set (i := 1) sc_law.nd rfl (Or.inl rfl) (pe_call G_l_state (hr.mono (by decide)) (by rfl) T.g_l_state T.F_l_state.kp T.b_l_state .nil pass0 (pa_cons (pv 0) pa_nil)))
  (pss_cons (ps_set (i := 2) sc_law.nd rfl (Or.inl rfl) (pe_call G_l_places (hr.mono (by decide)) (by rfl) T.g_l_places T.F_l_places.kp T.b_l_places .nil pass0 (pa_cons (pv 1) pa_nil)))
  (pss_cons (ps_set (i := 3) sc_law.nd rfl (Or.inl rfl) (pe_call G_l_roads (hr.mono (by decide)) (by rfl) T.g_l_roads T.F_l_roads.kp T.b_l_roads .nil pass0 (pa_cons (pv 1) (pa_cons (pv 2) pa_nil))))
  (pss_cons (ps_set (i := 4) sc_law.nd rfl (Or.inl rfl) (pe_make T.m_Net G_Net___init__ (hr.mono (by decide)) (by rfl) T.g_Net T.b_Net___init__ .nil pass0 (pa_cons (pv 2) (pa_cons (pv 3) pa_nil))))
  (pss_cons (ps_for PassesOwn.never rfl (pi_range1 rfl T.z_range (pa_cons pe_int pa_nil)) (pg_name (i := 5) sc_law.nd rfl (Or.inl rfl))
   (pss_cons (ps_set (i := 6) sc_law.nd rfl (Or.inl rfl) (pe_call G_l_draw (hr.mono (by decide)) (by rfl) T.g_l_draw T.F_l_draw.kp T.b_l_draw .nil pass0 (pa_cons (pv 1) (pa_cons pe_int pa_nil))))
  (pss_cons (ps_par (i := 7) (j := 8) rfl sc_law.nd rfl rfl (by decide) rfl rfl (pa_cons (pe_call G_l_thing (hr.mono (by decide)) (by rfl) T.g_l_thing T.F_l_thing.kp T.b_l_thing .nil pass0 (pa_cons (pv 1) (pa_cons (pe_listRg rfl (by rfl) T.z_list (prg_1 (by rfl) T.z_range (pe_callB (lenK (K := K) rfl) (by rfl) T.z_len (by decide +kernel) (pa_cons (pv 3) pa_nil)))) pa_nil))) (pa_cons (pe_call G_l_thing (hr.mono (by decide)) (by rfl) T.g_l_thing T.F_l_thing.kp T.b_l_thing .nil pass0 (pa_cons (pv 1) (pa_cons (pv 2) pa_nil))) pa_nil)) (by rfl))
  (pss_cons (ps_set (i := 9) sc_law.nd rfl (Or.inl rfl) pe_non)
  (pss_cons (ps_if (PW.pt (pw_and (pt_cmpR op_lt (pv 6) pe_int (nomark _)) (pw_and1 (pt_not (pt_val (pe_call G_l_is_number (hr.mono (by decide)) (by rfl) T.g_l_is_number T.F_l_is_number.kp T.b_l_is_number .nil pass0 (pa_cons (pv 7) (pa_cons (pe_listRg rfl (by rfl) T.z_list (prg_1 (by rfl) T.z_range (pe_callB (lenK (K := K) rfl) (by rfl) T.z_len (by decide +kernel) (pa_cons (pv 3) pa_nil)))) pa_nil)))))))) (pss_one (ps_set (i := 9) sc_law.nd rfl (Or.inl rfl) (pe_tup (pa_cons pe_str (pa_cons (pv 7) pa_nil))))) (pss_one (ps_if (PW.pt (pw_and (pt_cmpR op_eq (pv 6) pe_int (nomark _)) (pw_and1 (pt_not (pt_val (pe_call G_l_is_number (hr.mono (by decide)) (by rfl) T.g_l_is_number T.F_l_is_number.kp T.b_l_is_number .nil pass0 (pa_cons (pv 8) (pa_cons (pe_slice (sl_tupK (K := K) rfl) (pe_ix (ix_listK (K := K) rfl) (pv 3) (pv 7) (fun _ _ => rfl)) po_none (po_some pe_int)) pa_nil)))))))) (pss_one (ps_set (i := 9) sc_law.nd rfl (Or.inl rfl) (pe_tup (pa_cons pe_str (pa_cons (pv 8) pa_nil))))) (pss_one (ps_if (PW.pt (pw_and (pt_cmpR op_eq (pv 6) pe_int (nomark _)) (pw_and1 (pt_not (pt_val (pe_call G_l_is_number (hr.mono (by decide)) (by rfl) T.g_l_is_number T.F_l_is_number.kp T.b_l_is_number .nil pass0 (pa_cons (pv 8) (pa_cons (pv 2) pa_nil)))))))) (pss_one (ps_set (i := 9) sc_law.nd rfl (Or.inl rfl) (pe_tup (pa_cons pe_str (pa_cons (pv 8) pa_nil))))) pss_nil)))))
  (pss_one (ps_if (pt_cmpR op_ne (pe_either (pe_callB (reprK (K := K) rfl hgd hr) (by rfl) T.z_repr (by decide +kernel) (pa_cons (pe_call G_l_tried (hr.mono (by decide)) (by rfl) T.g_l_tried T.F_l_tried.kp T.b_l_tried .nil passL (pa_cons (pv 4) (pa_cons (pv 6) (pa_cons (pv 7) (pa_cons (pv 8) pa_nil))))) pa_nil)) (pe_callB (call_reprP hgd hr) (by rfl) T.z_repr (by decide +kernel) (pa_cons (pe_call G_l_tried (hr.mono (by decide)) (by rfl) T.g_l_tried T.F_l_tried.kp T.b_l_tried .nil passL (pa_cons (pv 4) (pa_cons (pv 6) (pa_cons (pv 7) (pa_cons (pv 8) pa_nil))))) pa_nil))) (pe_either (pe_callB (reprK (K := K) rfl hgd hr) (by rfl) T.z_repr (by decide +kernel) (pa_cons (pv 9) pa_nil)) (pe_callB (call_reprP hgd hr) (by rfl) T.z_repr (by decide +kernel) (pa_cons (pv 9) pa_nil))) (nomark _)) (pss_one (ps_ret pe_bl)) pss_nil)))))))
  (pss_one (ps_ret (pe_cmpR op_eq (pe_either (pe_callB (reprK (K := K) rfl hgd hr) (by rfl) T.z_repr (by decide +kernel) (pa_cons (pe_lst (pa_cons (pe_meth0 (pv 4) T.cl_Net T.me_Net_halls G_Net_halls (hr.mono (by decide)) T.b_Net_halls .nil pass0) (pa_cons (pe_meth0 (pv 4) T.cl_Net T.me_Net_links G_Net_links (hr.mono (by decide)) T.b_Net_links .nil pass0) pa_nil))) pa_nil)) (pe_callB (call_reprP hgd hr) (by rfl) T.z_repr (by decide +kernel) (pa_cons (pe_lst (pa_cons (pe_meth0 (pv 4) T.cl_Net T.me_Net_halls G_Net_halls (hr.mono (by decide)) T.b_Net_halls .nil pass0) (pa_cons (pe_meth0 (pv 4) T.cl_Net T.me_Net_links G_Net_links (hr.mono (by decide)) T.b_Net_links .nil pass0) pa_nil))) pa_nil))) (pe_either (pe_callB (reprK (K := K) rfl hgd hr) (by rfl) T.z_repr (by decide +kernel) (pa_cons (pe_lst (pa_cons (pe_callB (sortedK (K := K) rfl) (by rfl) T.z_sorted (by decide +kernel) (pa_cons (pv 2) pa_nil)) (pa_cons (pv 3) pa_nil))) pa_nil)) (pe_callB (call_reprP hgd hr) (by rfl) T.z_repr (by decide +kernel) (pa_cons (pe_lst (pa_cons (pe_callB (sortedK (K := K) rfl) (by rfl) T.z_sorted (by decide +kernel) (pa_cons (pv 2) pa_nil)) (pa_cons (pv 3) pa_nil))) pa_nil))) (nomark _))))))))), ?_⟩
    refine ⟨_, rfl, a, ns, rfl, hS, hlen, fun s c H1 e1 hs hc st => ?_⟩
    have W0 : Wd s c (fun _ => none) H1 := ⟨fun _ _ z => (nomatch z), rfl, rfl, st⟩
    refine ⟨_, rfl, s, c, _, rfl, W0, fun p1 ps H2 hP hp1 W1 => ?_⟩
    refine ⟨_, rfl, _, rfl, s, c, p1, _, ps, rfl, W1, upd_same, hP, fun p2 ts rs B3 H3 eB3 hR hrs hp2 hB2 W3 => ?_⟩
    have hB1 : B3 p1 = some (.lst (ps.map V.int)) := eB3 _ _ upd_same
    refine un_seq (un_asg (go_net rfl rfl W3 (W3.ex _ _ hB1) (W3.ex _ _ hB2) hP hR hrs fun n B qs H4 eB W4 hN eH4 hn => ?_))
    replace hB1 := eB _ _ hB1
    replace hB2 := eB _ _ hB2
    replace hrs := hrs.mono eB
    have l12 := hR.len
    have lts := hrs.len
    have h3 : ∀ {H' : Hp}, Wd s c B H' → ∀ H'', Ex H' H'' → ∀ Q' : VK, (∀ p H2, Ex H'' H2 → (H2 p = some (.lst ((rgI rs.length).map V.int)) ∨ H2 p = some (.tup ((rgI rs.length).map V.int))) → Q' (.ref p) H2) → ∀ {σ : L2.St}, σ[3]? = some (some (.ref p2)) → tLstRg (tRg1 (tCB (rLenQ K) (tCons (tVar 3) tNil))) σ H'' Q' := fun {H'} W H'' e Q' q' σ hσ =>
      ⟨_, hσ, p2, ts, rfl, .inl (SqL.of (e _ _ (W.ex _ _ hB2))), _, rfl, RgOk.of_le (by omega) (by omega) (by omega) (by omega), fun m hm => q' m _ (Ex.new hm) (.inl (by rw [upd_same, lts, rgV_rgI]))⟩
    refine ⟨12, rfl, by decide, by decide, for_range (lo := 0) (n := (12 : Int).toNat) (fun i σ H' => ∃ (y5 y6 y7 y8 y9 : Option V), σ = [some (.ref a), some (.ref s), some (.ref p1), some (.ref p2), some (.ref n), y5, y6, y7, y8, y9] ∧ Wd s c B H') ⟨_, _, _, _, _, rfl, W4⟩ ?_ ?_⟩
    · rintro i σ H5 hi ⟨y5, y6, y7, y8, y9, rfl, W5⟩
      refine ⟨_, rfl, s, c, 3, rfl, W5.st, by decide, by decide, fun way H6 w0 w3 st6 off6 => ?_⟩
      have W6 := W5.off st6 off6
      -- road and place
      refine ⟨_, rfl, _, rfl, p2, ts, rfl, .inl (SqL.of (W6.ex _ _ hB2)), _, rfl, RgOk.of_le (by omega) (by omega) (by omega) (by omega), fun m hm => ?_⟩
      rw [lts, rgV_rgI]
      have W7 := W6.new (o := .lst ((rgI rs.length).map V.int)) hm
      refine ⟨s, c, m, _, rgI rs.length, rfl, W7, upd_same, by unfold rgI; rw [List.length_map, List.length_range]; omega, fun z hz => ?_, fun x B8 H8 eB8 gx W8 => ?_⟩
      · obtain ⟨k, rfl, hk⟩ := rgI_mem.mp hz
        exact Nat.le_trans (by omega : ((k : Int)).natAbs ≤ 12) (by decide)
      have eB68 := (ex_know (o := .lst ((rgI rs.length).map V.int)) (W6.none_of hm)).trans eB8
      refine ⟨_, rfl, _, rfl, s, c, p1, B8, ps, rfl, W8, eB68 _ _ hB1, by have := hP.l1; omega, fun z hz => ?_, fun y B9 H9 eB9 gy W9 => ⟨_, _, rfl, ?_⟩⟩
      · have := hP.bd z hz
        exact Nat.le_trans (by omega : z.natAbs ≤ 999) (by decide)
      replace gx := gx.ext eB9
      have eB := eB68.trans eB9
      clear eB8 eB68
      have WB : ∀ {H' : Hp}, Wd s c B9 H' → Wd s c B H' := fun W => ⟨eB.trans W.ex, fresh_back eB W.ns, fresh_back eB W.nc, W.st⟩
      obtain ⟨tx, htx⟩ := gx.th.any
      obtain ⟨ty, hty⟩ := gy.th.any
      obtain ⟨Dx, hDx⟩ := gx.td
      obtain ⟨Dy, hDy⟩ := gy.td
      -- the comparison
      have FIN : ∀ (D : Ends) (v9 : V) (H10 : Hp), Wd s c B9 H10 → (∀ H', Wd s c B H' → D.nx [some (.ref a), some (.ref s), some (.ref p1), some (.ref p2), some (.ref n), some (.int (0 + (i : Int))), some (.int way), some x, some y, some v9] H') →
          ((v9 = .non ∧ ∀ H11, Ex H10 H11 → ∀ (Q' : VK), (∀ H', Ex H11 H' → Q' .non H') → sp_tried T.c_Net [.ref n, .int way, x, y] H11 Q' E0) ∨
           ∃ (p : Addr) (wd : Str) (u : V) (Du : PyData), v9 = .ref p ∧ (wd = "link" ∨ wd = "hall") ∧ H10 p = some (.tup [.str wd, u]) ∧ Thing H10 u ∧ TD H10 u Du ∧ ∀ H11, Ex H10 H11 → ∀ (Q' : VK), (∀ t z H', H11 t = none → Ex H11 H' → Copy H11 u H' z → H' t = some (.tup [.str wd, z]) → Q' (.ref t) H') → sp_tried T.c_Net [.ref n, .int way, x, y] H11 Q' E0) →
          (tIfS
                        (tTest
                          (tOp rNe
                            (tEi
                              (tCB (rReprD K)
                                (tCons
                                  (tCall (sp_tried T.c_Net) [] E0
                                    (tCons (tVar 4) (tCons (tVar 6) (tCons (tVar 7) (tCons (tVar 8) tNil)))))
                                  tNil))
                              (tCB rReprP
                                (tCons
                                  (tCall (sp_tried T.c_Net) [] E0
                                    (tCons (tVar 4) (tCons (tVar 6) (tCons (tVar 7) (tCons (tVar 8) tNil)))))
                                  tNil)))
                            (tEi (tCB (rReprD K) (tCons (tVar 9) tNil)) (tCB rReprP (tCons (tVar 9) tNil)))))
                        (tRet (tC (V.bl false))) tNext) D [some (.ref a), some (.ref s), some (.ref p1), some (.ref p2), some (.ref n), some (.int (0 + (i : Int))), some (.int way), some x, some y, some v9] H10 := by
        intro D v9 H10 W10 kn hc
        refine un_if (un_test (un_op ?_))
        rcases hc with ⟨rfl, ht⟩ | ⟨p, wd, u, Du, rfl, hwd, hp, hu, hDu, ht⟩
        · refine rp0 (fun Q' q' => ⟨_, rfl, _, rfl, _, rfl, _, rfl, ht H10 (Ex.refl _) _ fun H11 e11 => q' H11 e11⟩) fun H11 e11 => ?_
          refine rp0 (fun Q' q' => ⟨_, rfl, q' H11 (Ex.refl _)⟩) fun H12 e12 => ?_
          exact ⟨rfl, _, rfl, iteNS rfl (kn _ (WB (W10.ext (e11.trans e12))))⟩
        · refine rp2 hwd hDu (fun Q' q' => ⟨_, rfl, _, rfl, _, rfl, _, rfl, ht H10 (Ex.refl _) _ fun t z H11 ht' e11 hc11 h11 => q' t z H11 e11 (td_copy e11 hDu hu hc11) h11⟩) fun H11 e11 => ?_
          refine rp2 hwd hDu (fun Q' q' => ⟨_, rfl, q' p u H11 (Ex.refl _) (td_copy e11 hDu hu (copy_self hu |>.fwd e11)) (e11 _ _ hp)⟩) fun H12 e12 => ?_
          exact ⟨rfl, _, rfl, iteNS rfl (kn _ (WB (W10.ext (e11.trans e12))))⟩
      -- what is owed
      have M : ∀ {H11 : Hp}, Ex B9 H11 → Ex B H11 := fun e => eB.trans e
      have TL : way < 2 → BadL rs x → ∀ H11, Ex B9 H11 → ∀ (Q' : VK), (∀ t z H', H11 t = none → Ex H11 H' → Copy H11 x H' z → H' t = some (.tup [.str "link", z]) → Q' (.ref t) H') → sp_tried T.c_Net [.ref n, .int way, x, y] H11 Q' E0 := fun c1 c2 H11 e Q' q' =>
        ⟨n, way, x, y, B, ps, qs, rs, rfl, w0, w3, M e, hN, l12, gx.th.ext e, gy.th.ext e, .inl ⟨c1, c2, q'⟩⟩
      have TH : ((way = 0 ∧ ∃ (k : Nat) (r : Row), x = .int (k : Int) ∧ rs[k]? = some r ∧ Bad2 r y) ∨ (way = 2 ∧ BadH qs y)) → ∀ H11, Ex B9 H11 → ∀ (Q' : VK), (∀ t z H', H11 t = none → Ex H11 H' → Copy H11 y H' z → H' t = some (.tup [.str "hall", z]) → Q' (.ref t) H') → sp_tried T.c_Net [.ref n, .int way, x, y] H11 Q' E0 := fun c1 H11 e Q' q' =>
        ⟨n, way, x, y, B, ps, qs, rs, rfl, w0, w3, M e, hN, l12, gx.th.ext e, gy.th.ext e, .inr (.inl ⟨c1, q'⟩)⟩
      have TN : (way = 0 → ∃ (k : Nat) (r : Row) (h : Int), x = .int (k : Int) ∧ rs[k]? = some r ∧ y = .int h ∧ (h = r.1 ∨ h = r.2.1)) → (way = 1 → ∃ k : Nat, x = .int (k : Int) ∧ k < rs.length) → (way = 2 → ∃ h, y = .int h ∧ h ∈ qs) → ∀ H11, Ex B9 H11 → ∀ (Q' : VK), (∀ H', Ex H11 H' → Q' .non H') → sp_tried T.c_Net [.ref n, .int way, x, y] H11 Q' E0 := fun c1 c2 c3 H11 e Q' q' =>
        ⟨n, way, x, y, B, ps, qs, rs, rfl, w0, w3, M e, hN, l12, gx.th.ext e, gy.th.ext e, .inr (.inr ⟨c1, c2, c3, q'⟩)⟩
      have KN : ∀ {N : L2.St → Hp → Prop}, (∀ σ' H', (∃ (y5 y6 y7 y8 y9 : Option V), σ' = [some (.ref a), some (.ref s), some (.ref p1), some (.ref p2), some (.ref n), y5, y6, y7, y8, y9] ∧ Wd s c B H') → N σ' H') → ∀ (v9 : V) (H' : Hp), Wd s c B H' → N [some (.ref a), some (.ref s), some (.ref p1), some (.ref p2), some (.ref n), some (.int (0 + (i : Int))), some (.int way), some x, some y, some v9] H' := fun h v9 H' W => h _ _ ⟨_, _, _, _, _, rfl, W⟩
      have WT : ∀ {H10 H11 : Hp} {p : Addr} {wd : Str} {u : V}, Wd s c B9 H10 → Ex H10 H11 → Wd s c B9 H11 := fun W e => W.ext e
      dsimp only
      show tSeq _ _ _ [some (.ref a), some (.ref s), some (.ref p1), some (.ref p2), some (.ref n), some (.int (0 + (i : Int))), some (.int way), some x, some y, y9] H9
      refine q_asg (v := .non) ev_c fun H10 e10 => ?_
      have W10 := W9.ext e10
      have ev_lt : ∀ {H' : Hp} {σ : L2.St}, σ[6]? = some (some (.int way)) → EvT (tTest (tOp (rI0 fun i j => V.bl (decide (i < j))) (tVar 6) (tC (V.int 2)))) σ H' (decide (way < 2)) := fun h => et_test (ev_op (ev_var h) ev_c rv_I0)
      have ev_q : ∀ {H' : Hp} {σ : L2.St} (k : Int), σ[6]? = some (some (.int way)) → EvT (tTest (tOp rEq (tVar 6) (tC (V.int k)))) σ H' (decide (way = k)) := fun k h => et_test (ev_is (ev_op (ev_var h) ev_c (rv_eq rfl)) (by
        by_cases c : way = k
        · subst c; simp
        · rw [decide_eq_false c, decide_eq_false (fun z => c (V.int.inj z))]))
      have word : ∀ {H' : Hp} {σ : L2.St} {wd : Str} {k : Nat} {u : V}, σ[k]? = some (some u) → EvU (tTup (tCons (tC (V.str wd)) (tCons (tVar k) tNil))) σ H' [.str wd, u] := fun h => eu_tup (ea_cons ev_c (ea_cons (ev_var h) ea_nil)) (by show 2 ≤ 100000; decide)
      have good9 : ∀ {H' : Hp}, Wd s c B9 H' → Thing H' x ∧ TD H' x Dx ∧ Thing H' y ∧ TD H' y Dy := fun W => by
        have tdx : ∀ {u : V} {D : PyData}, TD B9 u D → TD _ u D := fun {u D} h => (show TD _ u D from by
          rcases h with ⟨h, s⟩ | ⟨a, kvs, ds, h1, h2, h3⟩
          · exact .inl ⟨h.ext W.ex, s⟩
          · exact .inr ⟨a, kvs, ds, h1, W.ex _ _ h2, h3⟩)
        exact ⟨gx.th.ext W.ex, tdx hDx, gy.th.ext W.ex, tdx hDy⟩
      refine q_if (b := decide (way < 2) && !isnB x (rgI rs.length)) (et_and (ev_lt rfl) fun _ => et_not (et_B (ev_isn2 rfl (htx.ext W10.ex) fun H11 e11 Q' q' => h3 (WB W10) H11 e11 Q' q' rfl))) (fun hb H11 e11 => ?_) (fun hb H11 e11 => ?_)
      · -- a link is refused
        have W11 := W10.ext e11
        rw [Bool.and_eq_true, Bool.not_eq_true'] at hb
        have c1 := of_decide_eq_true hb.1
        have c2 := badL_iff.mp hb.2
        refine s_asgU (word rfl) fun p H12 hp e12 h12 => ?_
        have W12 := W11.ext e12
        exact FIN _ (.ref p) H12 W12 (fun H' W' => ⟨_, _, _, _, _, rfl, W'⟩) (.inr ⟨p, "link", x, Dx, rfl, .inl rfl, h12, (good9 W12).1, (good9 W12).2.1, fun H13 e13 => TL c1 c2 H13 (W12.ex.trans e13)⟩)
      · have W11 := W10.ext e11
        have hx' : way < 2 → isnB x (rgI rs.length) = true := fun c => by
          rw [decide_eq_true c, Bool.true_and] at hb
          cases z : isnB x (rgI rs.length) with
          | true => rfl
          | false => rw [z] at hb; cases hb
        have hk : way < 2 → ∃ (k : Nat) (r : Row), x = .int (k : Int) ∧ rs[k]? = some r := fun c => by
          obtain ⟨z, hz, hm⟩ := isnB_iff.mp (hx' c)
          obtain ⟨k, rfl, hk⟩ := rgI_mem.mp hm
          exact ⟨k, rs[k], hz, List.getElem?_eq_getElem hk⟩
        by_cases c0 : way = 0
        · obtain ⟨k, r, hxk, hr⟩ := hk (by omega)
          obtain ⟨ra, hra, hrb⟩ := rows_at hrs hr
          refine s_if (b := !isnB y [r.1, r.2.1]) (et_is (et_and (a := true) (b := !isnB y [r.1, r.2.1]) (et_is (ev_q 0 rfl) (decide_eq_true c0)) fun _ => et_not (et_B (ev_isn2 rfl (hty.ext W11.ex) fun H12 e12 Q' q' => ?_))) (Bool.true_and _)) (fun hb2 H12 e12 => ?_) (fun hb2 H12 e12 => ?_)
          · have hB' := e12 _ _ ((WB W11).ex _ _ hB2)
            have hrow := e12 _ _ ((WB W11).ex _ _ hrb)
            subst hxk
            refine ⟨_, rfl, _, rfl, p2, ts, k, _, rfl, rfl, SqL.of hB', atI_nat hra, 2, rfl, ra, _, rfl, SqT.of hrow, by show ¬ (HT.sIx 3 0 none = 0 ∧ HT.sIx 3 3 (some 2) = 3); decide, fun p hp => q' p _ (Ex.new hp) (.inr ?_)⟩
            rw [upd_same]
            rfl
          · have W12 := W11.ext e12
            rw [Bool.not_eq_true'] at hb2
            refine s_asgU (word rfl) fun p H13 hp e13 h13 => ?_
            have W13 := W12.ext e13
            exact FIN _ (.ref p) H13 W13 (fun H' W' => ⟨_, _, _, _, _, rfl, W'⟩) (.inr ⟨p, "hall", y, Dy, rfl, .inr rfl, h13, (good9 W13).2.2.1, (good9 W13).2.2.2, fun H14 e14 => TH (.inl ⟨c0, k, r, hxk, hr, bad2_iff.mp hb2⟩) H14 (W13.ex.trans e14)⟩)
          · have W12 := W11.ext e12
            have hy' : isnB y [r.1, r.2.1] = true := by
              cases z : isnB y [r.1, r.2.1] with
              | true => rfl
              | false => rw [z] at hb2; cases hb2
            refine s_if (b := false) (et_is (et_and (a := false) (b := false) (et_is (ev_q 2 rfl) (decide_eq_false (by omega))) (fun z => nomatch z)) rfl) (fun z => nomatch z) (fun _ H13 e13 => un_next ?_)
            have W13 := W12.ext e13
            exact FIN _ .non H13 W13 (fun H' W' => ⟨_, _, _, _, _, rfl, W'⟩) (.inl ⟨rfl, fun H14 e14 => TN (fun _ => by
              obtain ⟨h, hh, hm⟩ := isnB_iff.mp hy'
              exact ⟨k, r, h, hxk, hr, hh, by simpa using hm⟩) (fun z => absurd z (by omega)) (fun z => absurd z (by omega)) H14 (W13.ex.trans e14)⟩)
        · refine s_if (b := false) (et_is (et_and (a := false) (b := false) (et_is (ev_q 0 rfl) (decide_eq_false c0)) (fun z => nomatch z)) rfl) (fun z => nomatch z) (fun _ H12 e12 => ?_)
          have W12 := W11.ext e12
          refine s_if (b := decide (way = 2) && !isnB y ps) (et_and (ev_q 2 rfl) fun _ => et_not (et_B (ev_isn2 rfl (hty.ext W12.ex) fun H13 e13 Q' q' => ⟨_, rfl, q' p1 H13 (Ex.refl _) (.inl (e13 _ _ ((WB W12).ex _ _ hB1)))⟩))) (fun hb2 H13 e13 => ?_) (fun hb2 H13 e13 => un_next ?_)
          · have W13 := W12.ext e13
            rw [Bool.and_eq_true, Bool.not_eq_true'] at hb2
            refine s_asgU (word rfl) fun p H14 hp e14 h14 => ?_
            have W14 := W13.ext e14
            exact FIN _ (.ref p) H14 W14 (fun H' W' => ⟨_, _, _, _, _, rfl, W'⟩) (.inr ⟨p, "hall", y, Dy, rfl, .inr rfl, h14, (good9 W14).2.2.1, (good9 W14).2.2.2, fun H15 e15 => TH (.inr ⟨of_decide_eq_true hb2.1, (badH_iff hN.pm).mp hb2.2⟩) H15 (W14.ex.trans e15)⟩)
          · have W13 := W12.ext e13
            exact FIN _ .non H13 W13 (fun H' W' => ⟨_, _, _, _, _, rfl, W'⟩) (.inl ⟨rfl, fun H14 e14 => TN (fun z => absurd z c0) (fun c => by
              obtain ⟨k, r, h1, h2⟩ := hk (by omega)
              exact ⟨k, h1, (List.getElem?_eq_some_iff.mp h2).1⟩) (fun c => by
              rw [decide_eq_true c, Bool.true_and] at hb2
              have hy' : isnB y ps = true := by
                cases z : isnB y ps with
                | true => rfl
                | false => rw [z] at hb2; cases hb2
              obtain ⟨h, hh, hm⟩ := isnB_iff.mp hy'
              exact ⟨h, hh, hN.pm.mem_iff.mpr hm⟩) H14 (W13.ex.trans e14)⟩)
    · rintro σ H5 ⟨y5, y6, y7, y8, y9, rfl, W5⟩
      obtain ⟨dxn, hh0, r', l, ts', hn', hh, hr1, hl, hrs'⟩ := id hN.ex
      have nm : ∀ {m : Str}, ¬ m = "_links" → ¬ m = "_rising" → ¬ m = "_handed" → (nf hh0 r' l).lookup m = none := fun h1 h2 h3 => nf_no _ _ _ h1 h2 h3
      have dat : ∀ {H' : Hp} {l1 l2 p : Addr} {us : List V}, H' p = some (.lst [.ref l1, .ref l2]) → H' l1 = some (.lst (qs.map V.int)) → H' l2 = some (.lst us) → RowsAt H' us rs → Dp K H' (.ref p) (.list [.list (qs.map PyData.int), .list (rs.map rowD)]) := fun h h1 h2 h3 => .lst (SqL.of h) (.cons (.lst (SqL.of h1) (dp_ints _)) (.cons (.lst (SqL.of h2) (dp_rows h3)) .nil))
      have sm : Small (.list [.list (qs.map PyData.int), .list (rs.map rowD)]) 3 1200 := (small_list (k := 2) (L := 500) (fun d hd => by
        rcases List.mem_cons.mp hd with rfl | hd
        · exact (small_ints (N := 8) (by rw [hN.pm.length_eq]; exact hP.l1) fun x hx => by
            have := hP.bd x (hN.pm.mem_iff.mp hx)
            omega).mono (by decide) (by decide)
        · obtain rfl := List.mem_singleton.mp hd
          exact (small_rows hP hR).mono (by decide) (by decide))).mono (by decide) (by show 2 * 502 + 3 ≤ 1200; decide)
      refine un_ret (un_op (ei_l (un_cb (un_cons (un_lst (un_cons ?_))))))
      refine ⟨_, rfl, n, dxn, _, rfl, W5.ex _ _ hn', nm (by decide +kernel) (by decide +kernel) (by decide +kernel), n, B, ps, qs, rs, rfl, W5.ex, hN, fun h1 H6 hh1 eH6 => ?_⟩
      have e56 : Ex H5 H6 := by rw [eH6]; exact Ex.new hh1
      have hl1 : H6 h1 = some (.lst (qs.map V.int)) := by rw [eH6, upd_same]
      clear eH6
      refine ⟨_, rfl, n, dxn, _, rfl, e56 _ _ (W5.ex _ _ hn'), nm (by decide +kernel) (by decide +kernel) (by decide +kernel), n, B, ps, qs, rs, rfl, W5.ex.trans e56, hN, fun h2 H7 us hh2 hus eH7 => ?_⟩
      have e67 : Ex H6 H7 := by rw [eH7]; exact Ex.new hh2
      have hl2 : H7 h2 = some (.lst us) := by rw [eH7, upd_same]
      clear eH7
      have eB7 := (W5.ex.trans e56).trans e67
      refine ⟨by show 2 ≤ sizeLine; decide, fun p hp => un_nil (repr_ok (dat upd_same (Ex.new hp _ _ (e67 _ _ hl1)) (Ex.new hp _ _ hl2) ((hus.mono eB7).mono (Ex.new hp))) sm (by decide) (by decide) ?_)⟩
      have eB8 := eB7.trans (Ex.new (o := .lst [.ref h1, .ref h2]) hp)
      refine ei_l (un_cb (un_cons (un_lst (un_cons ?_))))
      refine go_L (el_sorted (p := p1) (ns := ps) (qs := qs) (ev_var rfl) (eB8 _ _ hB1) (by have := hP.l1; omega) hN.pm hN.so) fun l1 H9 hl1' e9 h9 => ?_
      refine ⟨_, rfl, by show 2 ≤ sizeLine; decide, fun r hr' => un_nil (repr_ok (dat upd_same (Ex.new hr' _ _ h9) (Ex.new hr' _ _ (e9 _ _ (eB8 _ _ hB2))) (((hrs.mono eB8).mono e9).mono (Ex.new hr'))) sm (by decide) (by decide) ⟨rfl, ?_⟩)⟩
      rw [decide_eq_true rfl]
      exact q _
end
end K03

set_option maxHeartbeats 8000000
namespace K03
open PySem PySem.Spec PyProof.Rows L2 Evl MyG
/-! ### what the top has written -/
theorem all_mk {l : PySem.W.OpenLaw} {w : World} {K : PySem.W.Frag} {h : Heap} {mg : Str → Option Value} {fa : Addr} (X : K.In h) (G : h.Ns mainGlobals mg) (hfa : mg "law" = some (.ref fa))
    {C_Net : Addr}
    {C_RingError : Addr}
    {C_NoLink : Addr}
    {C_NoHall : Addr}
    {C_NoLetter : Addr}
    {C_Cut : Addr}
    {C_Runs : Addr}
    {C_Stands : Addr}
    {C_Stopped : Addr}
    {f_l_state : Addr} {od_l_state an_l_state : Option Addr} {sl_l_state : Array (Option Value)} {oc_l_state kV_l_state dc_l_state pm_l_state cd_l_state ct_l_state : Value}
    {f_l_draw : Addr} {od_l_draw an_l_draw : Option Addr} {sl_l_draw : Array (Option Value)} {oc_l_draw kV_l_draw dc_l_draw pm_l_draw cd_l_draw ct_l_draw : Value}
    {f_l_places : Addr} {od_l_places an_l_places : Option Addr} {sl_l_places : Array (Option Value)} {oc_l_places kV_l_places dc_l_places pm_l_places cd_l_places ct_l_places : Value}
    {f_l_roads : Addr} {od_l_roads an_l_roads : Option Addr} {sl_l_roads : Array (Option Value)} {oc_l_roads kV_l_roads dc_l_roads pm_l_roads cd_l_roads ct_l_roads : Value}
    {f_l_thing : Addr} {od_l_thing an_l_thing : Option Addr} {sl_l_thing : Array (Option Value)} {oc_l_thing kV_l_thing dc_l_thing pm_l_thing cd_l_thing ct_l_thing : Value}
    {f_l_is_number : Addr} {od_l_is_number an_l_is_number : Option Addr} {sl_l_is_number : Array (Option Value)} {oc_l_is_number kV_l_is_number dc_l_is_number pm_l_is_number cd_l_is_number ct_l_is_number : Value}
    {f_l_called : Addr} {od_l_called an_l_called : Option Addr} {sl_l_called : Array (Option Value)} {oc_l_called kV_l_called dc_l_called pm_l_called cd_l_called ct_l_called : Value}
    {f_l_tried : Addr} {od_l_tried an_l_tried : Option Addr} {sl_l_tried : Array (Option Value)} {oc_l_tried kV_l_tried dc_l_tried pm_l_tried cd_l_tried ct_l_tried : Value}
    {f_is_number : Addr} {od_is_number an_is_number : Option Addr} {sl_is_number : Array (Option Value)} {oc_is_number kV_is_number dc_is_number pm_is_number cd_is_number ct_is_number : Value}
    {f__are_halls : Addr} {od__are_halls an__are_halls : Option Addr} {sl__are_halls : Array (Option Value)} {oc__are_halls kV__are_halls dc__are_halls pm__are_halls cd__are_halls ct__are_halls : Value}
    {f__is_link : Addr} {od__is_link an__is_link : Option Addr} {sl__is_link : Array (Option Value)} {oc__is_link kV__is_link dc__is_link pm__is_link cd__is_link ct__is_link : Value}
    {f__are_links : Addr} {od__are_links an__are_links : Option Addr} {sl__are_links : Array (Option Value)} {oc__are_links kV__are_links dc__are_links pm__are_links cd__are_links ct__are_links : Value}
    {f_Net___init__ : Addr} {od_Net___init__ an_Net___init__ : Option Addr} {sl_Net___init__ : Array (Option Value)} {oc_Net___init__ kV_Net___init__ dc_Net___init__ pm_Net___init__ cd_Net___init__ ct_Net___init__ : Value}
    {f_Net_halls : Addr} {od_Net_halls an_Net_halls : Option Addr} {sl_Net_halls : Array (Option Value)} {oc_Net_halls kV_Net_halls dc_Net_halls pm_Net_halls cd_Net_halls ct_Net_halls : Value}
    {f_Net_links : Addr} {od_Net_links an_Net_links : Option Addr} {sl_Net_links : Array (Option Value)} {oc_Net_links kV_Net_links dc_Net_links pm_Net_links cd_Net_links ct_Net_links : Value}
    {f_Net_doors : Addr} {od_Net_doors an_Net_doors : Option Addr} {sl_Net_doors : Array (Option Value)} {oc_Net_doors kV_Net_doors dc_Net_doors pm_Net_doors cd_Net_doors ct_Net_doors : Value}
    {f_Net__link : Addr} {od_Net__link an_Net__link : Option Addr} {sl_Net__link : Array (Option Value)} {oc_Net__link kV_Net__link dc_Net__link pm_Net__link cd_Net__link ct_Net__link : Value}
    {f_Net_beyond : Addr} {od_Net_beyond an_Net_beyond : Option Addr} {sl_Net_beyond : Array (Option Value)} {oc_Net_beyond kV_Net_beyond dc_Net_beyond pm_Net_beyond cd_Net_beyond ct_Net_beyond : Value}
    {f_Net_cost : Addr} {od_Net_cost an_Net_cost : Option Addr} {sl_Net_cost : Array (Option Value)} {oc_Net_cost kV_Net_cost dc_Net_cost pm_Net_cost cd_Net_cost ct_Net_cost : Value}
    {f_kept T_kept : Addr} {od_kept an_kept oT_kept : Option Addr} {sl_kept sT_kept : Array (Option Value)} {oc_kept kV_kept dc_kept pm_kept cd_kept ct_kept cT_kept : Value} {nT_kept : Nat} {tk0_kept : Tok}
    {f_law : Addr} {od_law an_law : Option Addr} {sl_law : Array (Option Value)} {oc_law kV_law dc_law pm_law cd_law ct_law : Value}
    {t_MOST_HALLS : Tok}
    {t_MOST_LINKS : Tok}
    {t_LAST_HALL : Tok}
    {t_MOST_COST : Tok}
    {fx_NoLink ccx_NoLink cx_NoLink : Addr} {odx_NoLink anx_NoLink dcx_NoLink dkx_NoLink : Option Addr} {ocx_NoLink kVx_NoLink dox_NoLink pmx_NoLink ctx_NoLink clx_NoLink klx_NoLink : Value} {slx_NoLink slcx_NoLink slkx_NoLink : Array (Option Value)} {vsx_NoLink : Array Value} {nmx_NoLink nmc_NoLink qc_NoLink : Str} {tkx_NoLink : Tok} {Nc_NoLink : Addr} {bsc_NoLink subc_NoLink : List Value} {snc_NoLink : List Str} {abc_NoLink : Bool} {colc_NoLink : Option Bool} {ddc_NoLink : Option Addr} {k0_NoLink k1_NoLink k2_NoLink k3_NoLink k5_NoLink : Option Value}
    {fx_NoHall ccx_NoHall cx_NoHall : Addr} {odx_NoHall anx_NoHall dcx_NoHall dkx_NoHall : Option Addr} {ocx_NoHall kVx_NoHall dox_NoHall pmx_NoHall ctx_NoHall clx_NoHall klx_NoHall : Value} {slx_NoHall slcx_NoHall slkx_NoHall : Array (Option Value)} {vsx_NoHall : Array Value} {nmx_NoHall nmc_NoHall qc_NoHall : Str} {tkx_NoHall : Tok} {Nc_NoHall : Addr} {bsc_NoHall subc_NoHall : List Value} {snc_NoHall : List Str} {abc_NoHall : Bool} {colc_NoHall : Option Bool} {ddc_NoHall : Option Addr} {k0_NoHall k1_NoHall k2_NoHall k3_NoHall k5_NoHall : Option Value}
    (aC_Net : PySem.W.nsIn K mainGlobals "Net" = some (some (.ref C_Net)))
    (pg_Net : PySem.W.plainGet K C_Net Str.empty = true)
    (hd_Net : PySem.W.hasDictIn K C_Net = true)
    (po_Net : PySem.W.plainOver K C_Net = true)
    (sa_Net : PySem.W.findIn K (.ref C_Net) "__setattr__" = some (some (.builtin "object.__setattr__")))
    (mk_Net : PySem.W.makesIn K C_Net = true)
    (kc_Net : PySem.W.keepIn K (.ref C_Net) = true)
    (aC_RingError : PySem.W.nsIn K mainGlobals "RingError" = some (some (.ref C_RingError)))
    (aC_NoLink : PySem.W.nsIn K mainGlobals "NoLink" = some (some (.ref C_NoLink)))
    (aC_NoHall : PySem.W.nsIn K mainGlobals "NoHall" = some (some (.ref C_NoHall)))
    (aC_NoLetter : PySem.W.nsIn K mainGlobals "NoLetter" = some (some (.ref C_NoLetter)))
    (aC_Cut : PySem.W.nsIn K mainGlobals "Cut" = some (some (.ref C_Cut)))
    (aC_Runs : PySem.W.nsIn K mainGlobals "Runs" = some (some (.ref C_Runs)))
    (aC_Stands : PySem.W.nsIn K mainGlobals "Stands" = some (some (.ref C_Stands)))
    (aC_Stopped : PySem.W.nsIn K mainGlobals "Stopped" = some (some (.ref C_Stopped)))
    (a_l_state : PySem.W.nsIn K mainGlobals "_law_state" = some (some (.ref f_l_state)))
    (l_l_state : K.lookup f_l_state = some ⟨oc_l_state, od_l_state, .func (PySem.W.fnOf "_law_state" "_law_state" (defArgs s_l_state) (defBody s_l_state) (defScope s_l_state) .none kV_l_state dc_l_state pm_l_state an_l_state cd_l_state ct_l_state), sl_l_state⟩)
    (c_l_state : PySem.W.codeIn K cd_l_state "_law_state" = true)
    (k_l_state : PySem.W.keepIn K (.ref f_l_state) = true)
    (a_l_draw : PySem.W.nsIn K mainGlobals "_law_draw" = some (some (.ref f_l_draw)))
    (l_l_draw : K.lookup f_l_draw = some ⟨oc_l_draw, od_l_draw, .func (PySem.W.fnOf "_law_draw" "_law_draw" (defArgs s_l_draw) (defBody s_l_draw) (defScope s_l_draw) .none kV_l_draw dc_l_draw pm_l_draw an_l_draw cd_l_draw ct_l_draw), sl_l_draw⟩)
    (c_l_draw : PySem.W.codeIn K cd_l_draw "_law_draw" = true)
    (k_l_draw : PySem.W.keepIn K (.ref f_l_draw) = true)
    (a_l_places : PySem.W.nsIn K mainGlobals "_law_places" = some (some (.ref f_l_places)))
    (l_l_places : K.lookup f_l_places = some ⟨oc_l_places, od_l_places, .func (PySem.W.fnOf "_law_places" "_law_places" (defArgs s_l_places) (defBody s_l_places) (defScope s_l_places) .none kV_l_places dc_l_places pm_l_places an_l_places cd_l_places ct_l_places), sl_l_places⟩)
    (c_l_places : PySem.W.codeIn K cd_l_places "_law_places" = true)
    (k_l_places : PySem.W.keepIn K (.ref f_l_places) = true)
    (a_l_roads : PySem.W.nsIn K mainGlobals "_law_roads" = some (some (.ref f_l_roads)))
    (l_l_roads : K.lookup f_l_roads = some ⟨oc_l_roads, od_l_roads, .func (PySem.W.fnOf "_law_roads" "_law_roads" (defArgs s_l_roads) (defBody s_l_roads) (defScope s_l_roads) .none kV_l_roads dc_l_roads pm_l_roads an_l_roads cd_l_roads ct_l_roads), sl_l_roads⟩)
    (c_l_roads : PySem.W.codeIn K cd_l_roads "_law_roads" = true)
    (k_l_roads : PySem.W.keepIn K (.ref f_l_roads) = true)
    (a_l_thing : PySem.W.nsIn K mainGlobals "_law_thing" = some (some (.ref f_l_thing)))
    (l_l_thing : K.lookup f_l_thing = some ⟨oc_l_thing, od_l_thing, .func (PySem.W.fnOf "_law_thing" "_law_thing" (defArgs s_l_thing) (defBody s_l_thing) (defScope s_l_thing) .none kV_l_thing dc_l_thing pm_l_thing an_l_thing cd_l_thing ct_l_thing), sl_l_thing⟩)
    (c_l_thing : PySem.W.codeIn K cd_l_thing "_law_thing" = true)
    (k_l_thing : PySem.W.keepIn K (.ref f_l_thing) = true)
    (a_l_is_number : PySem.W.nsIn K mainGlobals "_law_is_number" = some (some (.ref f_l_is_number)))
    (l_l_is_number : K.lookup f_l_is_number = some ⟨oc_l_is_number, od_l_is_number, .func (PySem.W.fnOf "_law_is_number" "_law_is_number" (defArgs s_l_is_number) (defBody s_l_is_number) (defScope s_l_is_number) .none kV_l_is_number dc_l_is_number pm_l_is_number an_l_is_number cd_l_is_number ct_l_is_number), sl_l_is_number⟩)
    (c_l_is_number : PySem.W.codeIn K cd_l_is_number "_law_is_number" = true)
    (k_l_is_number : PySem.W.keepIn K (.ref f_l_is_number) = true)
    (a_l_called : PySem.W.nsIn K mainGlobals "_law_called" = some (some (.ref f_l_called)))
    (l_l_called : K.lookup f_l_called = some ⟨oc_l_called, od_l_called, .func (PySem.W.fnOf "_law_called" "_law_called" (defArgs s_l_called) (defBody s_l_called) (defScope s_l_called) .none kV_l_called dc_l_called pm_l_called an_l_called cd_l_called ct_l_called), sl_l_called⟩)
    (c_l_called : PySem.W.codeIn K cd_l_called "_law_called" = true)
    (k_l_called : PySem.W.keepIn K (.ref f_l_called) = true)
    (a_l_tried : PySem.W.nsIn K mainGlobals "_law_tried" = some (some (.ref f_l_tried)))
    (l_l_tried : K.lookup f_l_tried = some ⟨oc_l_tried, od_l_tried, .func (PySem.W.fnOf "_law_tried" "_law_tried" (defArgs s_l_tried) (defBody s_l_tried) (defScope s_l_tried) .none kV_l_tried dc_l_tried pm_l_tried an_l_tried cd_l_tried ct_l_tried), sl_l_tried⟩)
    (c_l_tried : PySem.W.codeIn K cd_l_tried "_law_tried" = true)
    (k_l_tried : PySem.W.keepIn K (.ref f_l_tried) = true)
    (a_is_number : PySem.W.nsIn K mainGlobals "is_number" = some (some (.ref f_is_number)))
    (l_is_number : K.lookup f_is_number = some ⟨oc_is_number, od_is_number, .func (PySem.W.fnOf "is_number" "is_number" (defArgs s_is_number) (defBody s_is_number) (defScope s_is_number) .none kV_is_number dc_is_number pm_is_number an_is_number cd_is_number ct_is_number), sl_is_number⟩)
    (c_is_number : PySem.W.codeIn K cd_is_number "is_number" = true)
    (k_is_number : PySem.W.keepIn K (.ref f_is_number) = true)
    (a__are_halls : PySem.W.nsIn K mainGlobals "_are_halls" = some (some (.ref f__are_halls)))
    (l__are_halls : K.lookup f__are_halls = some ⟨oc__are_halls, od__are_halls, .func (PySem.W.fnOf "_are_halls" "_are_halls" (defArgs s__are_halls) (defBody s__are_halls) (defScope s__are_halls) .none kV__are_halls dc__are_halls pm__are_halls an__are_halls cd__are_halls ct__are_halls), sl__are_halls⟩)
    (c__are_halls : PySem.W.codeIn K cd__are_halls "_are_halls" = true)
    (k__are_halls : PySem.W.keepIn K (.ref f__are_halls) = true)
    (a__is_link : PySem.W.nsIn K mainGlobals "_is_link" = some (some (.ref f__is_link)))
    (l__is_link : K.lookup f__is_link = some ⟨oc__is_link, od__is_link, .func (PySem.W.fnOf "_is_link" "_is_link" (defArgs s__is_link) (defBody s__is_link) (defScope s__is_link) .none kV__is_link dc__is_link pm__is_link an__is_link cd__is_link ct__is_link), sl__is_link⟩)
    (c__is_link : PySem.W.codeIn K cd__is_link "_is_link" = true)
    (k__is_link : PySem.W.keepIn K (.ref f__is_link) = true)
    (a__are_links : PySem.W.nsIn K mainGlobals "_are_links" = some (some (.ref f__are_links)))
    (l__are_links : K.lookup f__are_links = some ⟨oc__are_links, od__are_links, .func (PySem.W.fnOf "_are_links" "_are_links" (defArgs s__are_links) (defBody s__are_links) (defScope s__are_links) .none kV__are_links dc__are_links pm__are_links an__are_links cd__are_links ct__are_links), sl__are_links⟩)
    (c__are_links : PySem.W.codeIn K cd__are_links "_are_links" = true)
    (k__are_links : PySem.W.keepIn K (.ref f__are_links) = true)
    (a_Net___init__ : PySem.W.findIn K (.ref C_Net) "__init__" = some (some (.ref f_Net___init__)))
    (i_Net___init__ : PySem.W.isFn K (.ref f_Net___init__) = true)
    (l_Net___init__ : K.lookup f_Net___init__ = some ⟨oc_Net___init__, od_Net___init__, .func (PySem.W.fnOf "__init__" "Net.__init__" (defArgs s_Net___init__) (defBody s_Net___init__) (defScope s_Net___init__) .none kV_Net___init__ dc_Net___init__ pm_Net___init__ an_Net___init__ cd_Net___init__ ct_Net___init__), sl_Net___init__⟩)
    (c_Net___init__ : PySem.W.codeIn K cd_Net___init__ "Net.__init__" = true)
    (k_Net___init__ : PySem.W.keepIn K (.ref f_Net___init__) = true)
    (a_Net_halls : PySem.W.findIn K (.ref C_Net) "halls" = some (some (.ref f_Net_halls)))
    (i_Net_halls : PySem.W.isFn K (.ref f_Net_halls) = true)
    (l_Net_halls : K.lookup f_Net_halls = some ⟨oc_Net_halls, od_Net_halls, .func (PySem.W.fnOf "halls" "Net.halls" (defArgs s_Net_halls) (defBody s_Net_halls) (defScope s_Net_halls) .none kV_Net_halls dc_Net_halls pm_Net_halls an_Net_halls cd_Net_halls ct_Net_halls), sl_Net_halls⟩)
    (c_Net_halls : PySem.W.codeIn K cd_Net_halls "Net.halls" = true)
    (k_Net_halls : PySem.W.keepIn K (.ref f_Net_halls) = true)
    (a_Net_links : PySem.W.findIn K (.ref C_Net) "links" = some (some (.ref f_Net_links)))
    (i_Net_links : PySem.W.isFn K (.ref f_Net_links) = true)
    (l_Net_links : K.lookup f_Net_links = some ⟨oc_Net_links, od_Net_links, .func (PySem.W.fnOf "links" "Net.links" (defArgs s_Net_links) (defBody s_Net_links) (defScope s_Net_links) .none kV_Net_links dc_Net_links pm_Net_links an_Net_links cd_Net_links ct_Net_links), sl_Net_links⟩)
    (c_Net_links : PySem.W.codeIn K cd_Net_links "Net.links" = true)
    (k_Net_links : PySem.W.keepIn K (.ref f_Net_links) = true)
    (a_Net_doors : PySem.W.findIn K (.ref C_Net) "doors" = some (some (.ref f_Net_doors)))
    (i_Net_doors : PySem.W.isFn K (.ref f_Net_doors) = true)
    (l_Net_doors : K.lookup f_Net_doors = some ⟨oc_Net_doors, od_Net_doors, .func (PySem.W.fnOf "doors" "Net.doors" (defArgs s_Net_doors) (defBody s_Net_doors) (defScope s_Net_doors) .none kV_Net_doors dc_Net_doors pm_Net_doors an_Net_doors cd_Net_doors ct_Net_doors), sl_Net_doors⟩)
    (c_Net_doors : PySem.W.codeIn K cd_Net_doors "Net.doors" = true)
    (k_Net_doors : PySem.W.keepIn K (.ref f_Net_doors) = true)
    (a_Net__link : PySem.W.findIn K (.ref C_Net) "_link" = some (some (.ref f_Net__link)))
    (i_Net__link : PySem.W.isFn K (.ref f_Net__link) = true)
    (l_Net__link : K.lookup f_Net__link = some ⟨oc_Net__link, od_Net__link, .func (PySem.W.fnOf "_link" "Net._link" (defArgs s_Net__link) (defBody s_Net__link) (defScope s_Net__link) .none kV_Net__link dc_Net__link pm_Net__link an_Net__link cd_Net__link ct_Net__link), sl_Net__link⟩)
    (c_Net__link : PySem.W.codeIn K cd_Net__link "Net._link" = true)
    (k_Net__link : PySem.W.keepIn K (.ref f_Net__link) = true)
    (a_Net_beyond : PySem.W.findIn K (.ref C_Net) "beyond" = some (some (.ref f_Net_beyond)))
    (i_Net_beyond : PySem.W.isFn K (.ref f_Net_beyond) = true)
    (l_Net_beyond : K.lookup f_Net_beyond = some ⟨oc_Net_beyond, od_Net_beyond, .func (PySem.W.fnOf "beyond" "Net.beyond" (defArgs s_Net_beyond) (defBody s_Net_beyond) (defScope s_Net_beyond) .none kV_Net_beyond dc_Net_beyond pm_Net_beyond an_Net_beyond cd_Net_beyond ct_Net_beyond), sl_Net_beyond⟩)
    (c_Net_beyond : PySem.W.codeIn K cd_Net_beyond "Net.beyond" = true)
    (k_Net_beyond : PySem.W.keepIn K (.ref f_Net_beyond) = true)
    (a_Net_cost : PySem.W.findIn K (.ref C_Net) "cost" = some (some (.ref f_Net_cost)))
    (i_Net_cost : PySem.W.isFn K (.ref f_Net_cost) = true)
    (l_Net_cost : K.lookup f_Net_cost = some ⟨oc_Net_cost, od_Net_cost, .func (PySem.W.fnOf "cost" "Net.cost" (defArgs s_Net_cost) (defBody s_Net_cost) (defScope s_Net_cost) .none kV_Net_cost dc_Net_cost pm_Net_cost an_Net_cost cd_Net_cost ct_Net_cost), sl_Net_cost⟩)
    (c_Net_cost : PySem.W.codeIn K cd_Net_cost "Net.cost" = true)
    (k_Net_cost : PySem.W.keepIn K (.ref f_Net_cost) = true)
    (a_kept : PySem.W.nsIn K mainGlobals "kept" = some (some (.ref f_kept)))
    (l_kept : K.lookup f_kept = some ⟨oc_kept, od_kept, .func (PySem.W.fnOf "kept" "kept" (defArgs s_kept) (defBody s_kept) (defScope s_kept) (.ref T_kept) kV_kept dc_kept pm_kept an_kept cd_kept ct_kept), sl_kept⟩)
    (t_kept : K.lookup T_kept = some ⟨cT_kept, oT_kept, .seq #[Value.int 100 tk0_kept] nT_kept, sT_kept⟩)
    (c_kept : PySem.W.codeIn K cd_kept "kept" = true)
    (k_kept : PySem.W.keepIn K (.ref f_kept) = true)
    (a_law : PySem.W.nsIn K mainGlobals "law" = some (some (.ref f_law)))
    (l_law : K.lookup f_law = some ⟨oc_law, od_law, .func (PySem.W.fnOf "law" "law" (defArgs s_law) (defBody s_law) (defScope s_law) .none kV_law dc_law pm_law an_law cd_law ct_law), sl_law⟩)
    (c_law : PySem.W.codeIn K cd_law "law" = true)
    (k_law : PySem.W.keepIn K (.ref f_law) = true)
    (na_Net__handed : PySem.W.findIn K (.ref C_Net) "_handed" = some none)
    (na_Net__rising : PySem.W.findIn K (.ref C_Net) "_rising" = some none)
    (na_Net__links : PySem.W.findIn K (.ref C_Net) "_links" = some none)
    (z_abs : PySem.W.nsIn K mainGlobals "abs" = some none)
    (z_len : PySem.W.nsIn K mainGlobals "len" = some none)
    (z_range : PySem.W.nsIn K mainGlobals "range" = some none)
    (z_list : PySem.W.nsIn K mainGlobals "list" = some none)
    (z_repr : PySem.W.nsIn K mainGlobals "repr" = some none)
    (z_sorted : PySem.W.nsIn K mainGlobals "sorted" = some none)
    (z_all : PySem.W.nsIn K mainGlobals "all" = some none)
    (z_isinstance : PySem.W.nsIn K mainGlobals "isinstance" = some none)
    (z_set : PySem.W.nsIn K mainGlobals "set" = some none)
    (z_tuple : PySem.W.nsIn K mainGlobals "tuple" = some none)
    (z_int : PySem.W.nsIn K mainGlobals "int" = some none)
    (z_bool : PySem.W.nsIn K mainGlobals "bool" = some none)
    (z_dict : PySem.W.nsIn K mainGlobals "dict" = some none)
    (z_ValueError : PySem.W.nsIn K mainGlobals "ValueError" = some none)
    (z_enumerate : PySem.W.nsIn K mainGlobals "enumerate" = some none)
    (v_MOST_HALLS : PySem.W.nsIn K mainGlobals "MOST_HALLS" = some (some (.int (8) t_MOST_HALLS)))
    (v_MOST_LINKS : PySem.W.nsIn K mainGlobals "MOST_LINKS" = some (some (.int (12) t_MOST_LINKS)))
    (v_LAST_HALL : PySem.W.nsIn K mainGlobals "LAST_HALL" = some (some (.int (999) t_LAST_HALL)))
    (v_MOST_COST : PySem.W.nsIn K mainGlobals "MOST_COST" = some (some (.int (30) t_MOST_COST)))
    (xo : PySem.W.nsIn K PySem.cStatics "thirdparty.any" = some none)
    (htop : (l.prog.main.scope.names.lookup ("super" : Str)).isSome = false)
    (xs : PySem.W.nsIn K mainGlobals "super" = some none)
    (xcg : PySem.W.specialIn K (.builtin "object.__class__") "__get__" = some (some (.builtin "getset_descriptor.__get__")))
    (xct : PySem.W.takesIn K (.builtin "object.__class__") = some true)
    (xr1_RingError : PySem.W.subIn K (.ref C_RingError) (.type "BaseException") = some true)
    (xr2_RingError : PySem.W.typeIn K (.ref C_RingError) = some (.type "type"))
    (xr3_RingError : PySem.W.hasDictIn K C_RingError = true)
    (x1_NoLink : PySem.W.findIn K (.ref C_NoLink) "__init__" = some (some (.ref fx_NoLink)))
    (x2_NoLink : K.lookup fx_NoLink = some ⟨ocx_NoLink, odx_NoLink, .func (PySem.W.fnX "__init__" "NoLink.__init__" (defArgs s_NoLink___init__) (defBody s_NoLink___init__) (defScope s_NoLink___init__) [(("__class__" : Str), ccx_NoLink)] .none kVx_NoLink dox_NoLink pmx_NoLink anx_NoLink (.ref cx_NoLink) ctx_NoLink), slx_NoLink⟩)
    (x3_NoLink : PySem.W.codeIn K (.ref cx_NoLink) "NoLink.__init__" = true)
    (x4_NoLink : PySem.W.keepIn K (.ref fx_NoLink) = true)
    (x5_NoLink : K.lookup C_NoLink = some (excClassObj nmc_NoLink qc_NoLink C_NoLink Nc_NoLink bsc_NoLink [.ref C_RingError, .type "ValueError", .type "Exception", .type "BaseException", .type "object"] true snc_NoLink subc_NoLink abc_NoLink colc_NoLink ddc_NoLink k0_NoLink k1_NoLink k2_NoLink k3_NoLink k5_NoLink "ValueError.__new__"))
    (x7_NoLink : PySem.W.findIn K (.ref C_NoLink) "__setattr__" = some (some (.builtin "object.__setattr__")))
    (x8_NoLink : PySem.W.subIn K (.ref C_NoLink) (.type "BaseException") = some true)
    (x9_NoLink : PySem.W.typeIn K (.ref C_NoLink) = some (.type "type"))
    (x10_NoLink : PySem.W.keepIn K (.ref C_NoLink) = true)
    (x11_NoLink : K.lookup ccx_NoLink = some ⟨clx_NoLink, dcx_NoLink, .cell (some (.ref C_NoLink)), slcx_NoLink⟩)
    (x12_NoLink : K.lookup cx_NoLink = some ⟨klx_NoLink, dkx_NoLink, .fields vsx_NoLink, slkx_NoLink⟩)
    (x13_NoLink : vsx_NoLink[2]? = some (.str nmx_NoLink tkx_NoLink))
    (x14_NoLink : ((l.prog.main.file : Str) == nmx_NoLink) = true)
    (x15_NoLink : PySem.W.ks_superIn K C_NoLink C_NoLink "__init__" = some (some (.builtin "ValueError.__init__")))
    (x16_NoLink : PySem.W.subIn K (.ref C_NoLink) (.type "ValueError") = some true)
    (x17_NoLink : PySem.W.mroIn K C_NoLink (.ref C_NoLink) = some true)
    (x18_NoLink : PySem.W.findIn K (.ref C_NoLink) "number" = some none)
    (x19_NoLink : PySem.W.typeIn K (.ref fx_NoLink) = some (.type "function"))
    (x20_NoLink : PySem.W.findIn K (.ref C_NoLink) "__getattribute__" = some (some (.builtin "BaseException.__getattribute__")))
    (x21_NoLink : PySem.W.findIn K (.ref C_NoLink) "__getattr__" = some none)
    (x22_NoLink : PySem.W.hasDictIn K C_NoLink = true)
    (x23_NoLink : PySem.W.findIn K (.ref C_NoLink) "__class__" = some (some (.builtin "object.__class__")))
    (x24_NoLink : PySem.W.mroIn K C_NoLink (.type "object") = some true)
    (x25_NoLink : PySem.W.subIn K (.ref C_NoLink) (.ref C_RingError) = some true)
    (qkv_NoLink : PySem.W.kitOne K (.ref C_NoLink) (.type "ValueError") = some true)
    (qkx_NoLink_Cut : PySem.W.kitOne K (.ref C_NoLink) (.ref C_Cut) = some false)
    (qkx_NoLink_NoLetter : PySem.W.kitOne K (.ref C_NoLink) (.ref C_NoLetter) = some false)
    (qkx_NoLink_Runs : PySem.W.kitOne K (.ref C_NoLink) (.ref C_Runs) = some false)
    (qkx_NoLink_Stands : PySem.W.kitOne K (.ref C_NoLink) (.ref C_Stands) = some false)
    (qkx_NoLink_Stopped : PySem.W.kitOne K (.ref C_NoLink) (.ref C_Stopped) = some false)
    (qkx_NoLink_NoLink : PySem.W.kitOne K (.ref C_NoLink) (.ref C_NoLink) = some true)
    (qkx_NoLink_NoHall : PySem.W.kitOne K (.ref C_NoLink) (.ref C_NoHall) = some false)
    (x1_NoHall : PySem.W.findIn K (.ref C_NoHall) "__init__" = some (some (.ref fx_NoHall)))
    (x2_NoHall : K.lookup fx_NoHall = some ⟨ocx_NoHall, odx_NoHall, .func (PySem.W.fnX "__init__" "NoHall.__init__" (defArgs s_NoHall___init__) (defBody s_NoHall___init__) (defScope s_NoHall___init__) [(("__class__" : Str), ccx_NoHall)] .none kVx_NoHall dox_NoHall pmx_NoHall anx_NoHall (.ref cx_NoHall) ctx_NoHall), slx_NoHall⟩)
    (x3_NoHall : PySem.W.codeIn K (.ref cx_NoHall) "NoHall.__init__" = true)
    (x4_NoHall : PySem.W.keepIn K (.ref fx_NoHall) = true)
    (x5_NoHall : K.lookup C_NoHall = some (excClassObj nmc_NoHall qc_NoHall C_NoHall Nc_NoHall bsc_NoHall [.ref C_RingError, .type "ValueError", .type "Exception", .type "BaseException", .type "object"] true snc_NoHall subc_NoHall abc_NoHall colc_NoHall ddc_NoHall k0_NoHall k1_NoHall k2_NoHall k3_NoHall k5_NoHall "ValueError.__new__"))
    (x7_NoHall : PySem.W.findIn K (.ref C_NoHall) "__setattr__" = some (some (.builtin "object.__setattr__")))
    (x8_NoHall : PySem.W.subIn K (.ref C_NoHall) (.type "BaseException") = some true)
    (x9_NoHall : PySem.W.typeIn K (.ref C_NoHall) = some (.type "type"))
    (x10_NoHall : PySem.W.keepIn K (.ref C_NoHall) = true)
    (x11_NoHall : K.lookup ccx_NoHall = some ⟨clx_NoHall, dcx_NoHall, .cell (some (.ref C_NoHall)), slcx_NoHall⟩)
    (x12_NoHall : K.lookup cx_NoHall = some ⟨klx_NoHall, dkx_NoHall, .fields vsx_NoHall, slkx_NoHall⟩)
    (x13_NoHall : vsx_NoHall[2]? = some (.str nmx_NoHall tkx_NoHall))
    (x14_NoHall : ((l.prog.main.file : Str) == nmx_NoHall) = true)
    (x15_NoHall : PySem.W.ks_superIn K C_NoHall C_NoHall "__init__" = some (some (.builtin "ValueError.__init__")))
    (x16_NoHall : PySem.W.subIn K (.ref C_NoHall) (.type "ValueError") = some true)
    (x17_NoHall : PySem.W.mroIn K C_NoHall (.ref C_NoHall) = some true)
    (x18_NoHall : PySem.W.findIn K (.ref C_NoHall) "number" = some none)
    (x19_NoHall : PySem.W.typeIn K (.ref fx_NoHall) = some (.type "function"))
    (x20_NoHall : PySem.W.findIn K (.ref C_NoHall) "__getattribute__" = some (some (.builtin "BaseException.__getattribute__")))
    (x21_NoHall : PySem.W.findIn K (.ref C_NoHall) "__getattr__" = some none)
    (x22_NoHall : PySem.W.hasDictIn K C_NoHall = true)
    (x23_NoHall : PySem.W.findIn K (.ref C_NoHall) "__class__" = some (some (.builtin "object.__class__")))
    (x24_NoHall : PySem.W.mroIn K C_NoHall (.type "object") = some true)
    (x25_NoHall : PySem.W.subIn K (.ref C_NoHall) (.ref C_RingError) = some true)
    (qkv_NoHall : PySem.W.kitOne K (.ref C_NoHall) (.type "ValueError") = some true)
    (qkx_NoHall_Cut : PySem.W.kitOne K (.ref C_NoHall) (.ref C_Cut) = some false)
    (qkx_NoHall_NoLetter : PySem.W.kitOne K (.ref C_NoHall) (.ref C_NoLetter) = some false)
    (qkx_NoHall_Runs : PySem.W.kitOne K (.ref C_NoHall) (.ref C_Runs) = some false)
    (qkx_NoHall_Stands : PySem.W.kitOne K (.ref C_NoHall) (.ref C_Stands) = some false)
    (qkx_NoHall_Stopped : PySem.W.kitOne K (.ref C_NoHall) (.ref C_Stopped) = some false)
    (qkx_NoHall_NoLink : PySem.W.kitOne K (.ref C_NoHall) (.ref C_NoLink) = some false)
    (qkx_NoHall_NoHall : PySem.W.kitOne K (.ref C_NoHall) (.ref C_NoHall) = some true) :
    ∃ fd : FuncData, (∀ (s : Shared) (v : Value), BindsTo s fd ⟨[v], []⟩ [("_law_script", v)]) ∧ ∀ base : Heap, K.In base → base.Ns mainGlobals mg → FnOkG l.prog w K mg base CX0 14 fa fd ["_law_script"] (sp_law K) := by
  have e := hfa.symm.trans (PySem.W.mg_of X G a_law)
  cases e
  have F_l_state := fun_mk (st := s_l_state) l_l_state c_l_state k_l_state
  have b_l_state := F_l_state.binds (ps := ["_law_script"]) fun _ _ _ _ _ _ us hl => match us, hl with | [_], _ => rfl
  have F_l_draw := fun_mk (st := s_l_draw) l_l_draw c_l_draw k_l_draw
  have b_l_draw := F_l_draw.binds (ps := ["_law_state_here", "_law_many"]) fun _ _ _ _ _ _ us hl => match us, hl with | [_, _], _ => rfl
  have F_l_places := fun_mk (st := s_l_places) l_l_places c_l_places k_l_places
  have b_l_places := F_l_places.binds (ps := ["_law_state_here"]) fun _ _ _ _ _ _ us hl => match us, hl with | [_], _ => rfl
  have F_l_roads := fun_mk (st := s_l_roads) l_l_roads c_l_roads k_l_roads
  have b_l_roads := F_l_roads.binds (ps := ["_law_state_here", "_law_places_here"]) fun _ _ _ _ _ _ us hl => match us, hl with | [_, _], _ => rfl
  have F_l_thing := fun_mk (st := s_l_thing) l_l_thing c_l_thing k_l_thing
  have b_l_thing := F_l_thing.binds (ps := ["_law_state_here", "_law_some"]) fun _ _ _ _ _ _ us hl => match us, hl with | [_, _], _ => rfl
  have F_l_is_number := fun_mk (st := s_l_is_number) l_l_is_number c_l_is_number k_l_is_number
  have b_l_is_number := F_l_is_number.binds (ps := ["_law_thing_here", "_law_some"]) fun _ _ _ _ _ _ us hl => match us, hl with | [_, _], _ => rfl
  have F_l_called := fun_mk (st := s_l_called) l_l_called c_l_called k_l_called
  have b_l_called := F_l_called.binds (ps := ["_law_net", "_law_way", "_law_road", "_law_place"]) fun _ _ _ _ _ _ us hl => match us, hl with | [_, _, _, _], _ => rfl
  have F_l_tried := fun_mk (st := s_l_tried) l_l_tried c_l_tried k_l_tried
  have b_l_tried := F_l_tried.binds (ps := ["_law_net", "_law_way", "_law_road", "_law_place"]) fun _ _ _ _ _ _ us hl => match us, hl with | [_, _, _, _], _ => rfl
  have F_is_number := fun_mk (st := s_is_number) l_is_number c_is_number k_is_number
  have b_is_number := F_is_number.binds (ps := ["thing"]) fun _ _ _ _ _ _ us hl => match us, hl with | [_], _ => rfl
  have F__are_halls := fun_mk (st := s__are_halls) l__are_halls c__are_halls k__are_halls
  have b__are_halls := F__are_halls.binds (ps := ["things"]) fun _ _ _ _ _ _ us hl => match us, hl with | [_], _ => rfl
  have F__is_link := fun_mk (st := s__is_link) l__is_link c__is_link k__is_link
  have b__is_link := F__is_link.binds (ps := ["thing", "halls"]) fun _ _ _ _ _ _ us hl => match us, hl with | [_, _], _ => rfl
  have F__are_links := fun_mk (st := s__are_links) l__are_links c__are_links k__are_links
  have b__are_links := F__are_links.binds (ps := ["things", "halls"]) fun _ _ _ _ _ _ us hl => match us, hl with | [_, _], _ => rfl
  have F_Net___init__ := fun_mk (st := s_Net___init__) l_Net___init__ c_Net___init__ k_Net___init__
  have b_Net___init__ := F_Net___init__.binds (ps := ["self", "halls", "links"]) fun _ _ _ _ _ _ us hl => match us, hl with | [_, _, _], _ => rfl
  have F_Net_halls := fun_mk (st := s_Net_halls) l_Net_halls c_Net_halls k_Net_halls
  have b_Net_halls := F_Net_halls.binds (ps := ["self"]) fun _ _ _ _ _ _ us hl => match us, hl with | [_], _ => rfl
  have F_Net_links := fun_mk (st := s_Net_links) l_Net_links c_Net_links k_Net_links
  have b_Net_links := F_Net_links.binds (ps := ["self"]) fun _ _ _ _ _ _ us hl => match us, hl with | [_], _ => rfl
  have F_Net_doors := fun_mk (st := s_Net_doors) l_Net_doors c_Net_doors k_Net_doors
  have b_Net_doors := F_Net_doors.binds (ps := ["self", "hall"]) fun _ _ _ _ _ _ us hl => match us, hl with | [_, _], _ => rfl
  have F_Net__link := fun_mk (st := s_Net__link) l_Net__link c_Net__link k_Net__link
  have b_Net__link := F_Net__link.binds (ps := ["self", "link"]) fun _ _ _ _ _ _ us hl => match us, hl with | [_, _], _ => rfl
  have F_Net_beyond := fun_mk (st := s_Net_beyond) l_Net_beyond c_Net_beyond k_Net_beyond
  have b_Net_beyond := F_Net_beyond.binds (ps := ["self", "link", "hall"]) fun _ _ _ _ _ _ us hl => match us, hl with | [_, _, _], _ => rfl
  have F_Net_cost := fun_mk (st := s_Net_cost) l_Net_cost c_Net_cost k_Net_cost
  have b_Net_cost := F_Net_cost.binds (ps := ["self", "link"]) fun _ _ _ _ _ _ us hl => match us, hl with | [_, _], _ => rfl
  have F_kept : FunD K "kept" "kept" (defArgs s_kept) (defBody s_kept) (defScope s_kept) [V.int 100] [] f_kept _ := ⟨⟨_, _, _, _, _, _, _, _, _, _, rfl, l_kept, c_kept, .inr ⟨by simp, T_kept, _, [Value.int 100 tk0_kept], nT_kept, rfl, t_kept, rfl, (.cons ⟨tk0_kept, rfl⟩ .nil)⟩, .inl rfl⟩, k_kept⟩
  obtain ⟨ds0_kept, dv0_kept, b_kept⟩ := F_kept.binds1 (ps := ["thing", "deep"]) 2 1 (by simp) rfl (fun _ _ _ _ _ _ _ us its l1 l2 => match us, l1, its, l2 with | [_, _], _, [_], _ => ⟨_, rfl, rfl⟩)
  cases dv0_kept
  obtain ⟨ds_kept, dv_kept, b1_kept⟩ := F_kept.binds1 (ps := ["thing", "deep"]) 1 0 (by simp) rfl (fun _ _ _ _ _ _ _ us its l1 l2 => match us, l1, its, l2 with | [_], _, [_], _ => ⟨_, rfl, rfl⟩)
  have F_law := fun_mk (st := s_law) l_law c_law k_law
  have b_law := F_law.binds (ps := ["_law_script"]) fun _ _ _ _ _ _ us hl => match us, hl with | [_], _ => rfl
  let T : Tx K mg := {
    c_Net := C_Net,
    g_Net := PySem.W.mg_of X G aC_Net,
    cl_Net := ⟨pg_Net, hd_Net, po_Net, sa_Net⟩,
    c_RingError := C_RingError,
    g_RingError := PySem.W.mg_of X G aC_RingError,
    c_NoLink := C_NoLink,
    g_NoLink := PySem.W.mg_of X G aC_NoLink,
    c_NoHall := C_NoHall,
    g_NoHall := PySem.W.mg_of X G aC_NoHall,
    c_NoLetter := C_NoLetter,
    g_NoLetter := PySem.W.mg_of X G aC_NoLetter,
    c_Cut := C_Cut,
    g_Cut := PySem.W.mg_of X G aC_Cut,
    c_Runs := C_Runs,
    g_Runs := PySem.W.mg_of X G aC_Runs,
    c_Stands := C_Stands,
    g_Stands := PySem.W.mg_of X G aC_Stands,
    c_Stopped := C_Stopped,
    g_Stopped := PySem.W.mg_of X G aC_Stopped,
    a_l_state := f_l_state,
    d_l_state := _,
    F_l_state := F_l_state,
    b_l_state := b_l_state,
    g_l_state := PySem.W.mg_of X G a_l_state,
    a_l_draw := f_l_draw,
    d_l_draw := _,
    F_l_draw := F_l_draw,
    b_l_draw := b_l_draw,
    g_l_draw := PySem.W.mg_of X G a_l_draw,
    a_l_places := f_l_places,
    d_l_places := _,
    F_l_places := F_l_places,
    b_l_places := b_l_places,
    g_l_places := PySem.W.mg_of X G a_l_places,
    a_l_roads := f_l_roads,
    d_l_roads := _,
    F_l_roads := F_l_roads,
    b_l_roads := b_l_roads,
    g_l_roads := PySem.W.mg_of X G a_l_roads,
    a_l_thing := f_l_thing,
    d_l_thing := _,
    F_l_thing := F_l_thing,
    b_l_thing := b_l_thing,
    g_l_thing := PySem.W.mg_of X G a_l_thing,
    a_l_is_number := f_l_is_number,
    d_l_is_number := _,
    F_l_is_number := F_l_is_number,
    b_l_is_number := b_l_is_number,
    g_l_is_number := PySem.W.mg_of X G a_l_is_number,
    a_l_called := f_l_called,
    d_l_called := _,
    F_l_called := F_l_called,
    b_l_called := b_l_called,
    g_l_called := PySem.W.mg_of X G a_l_called,
    a_l_tried := f_l_tried,
    d_l_tried := _,
    F_l_tried := F_l_tried,
    b_l_tried := b_l_tried,
    g_l_tried := PySem.W.mg_of X G a_l_tried,
    a_is_number := f_is_number,
    d_is_number := _,
    F_is_number := F_is_number,
    b_is_number := b_is_number,
    g_is_number := PySem.W.mg_of X G a_is_number,
    a__are_halls := f__are_halls,
    d__are_halls := _,
    F__are_halls := F__are_halls,
    b__are_halls := b__are_halls,
    g__are_halls := PySem.W.mg_of X G a__are_halls,
    a__is_link := f__is_link,
    d__is_link := _,
    F__is_link := F__is_link,
    b__is_link := b__is_link,
    g__is_link := PySem.W.mg_of X G a__is_link,
    a__are_links := f__are_links,
    d__are_links := _,
    F__are_links := F__are_links,
    b__are_links := b__are_links,
    g__are_links := PySem.W.mg_of X G a__are_links,
    a_Net___init__ := f_Net___init__,
    d_Net___init__ := _,
    F_Net___init__ := F_Net___init__,
    b_Net___init__ := b_Net___init__,
    m_Net := ⟨mk_Net, a_Net___init__, i_Net___init__, kc_Net⟩,
    a_Net_halls := f_Net_halls,
    d_Net_halls := _,
    F_Net_halls := F_Net_halls,
    b_Net_halls := b_Net_halls,
    me_Net_halls := ⟨a_Net_halls, i_Net_halls, k_Net_halls⟩,
    a_Net_links := f_Net_links,
    d_Net_links := _,
    F_Net_links := F_Net_links,
    b_Net_links := b_Net_links,
    me_Net_links := ⟨a_Net_links, i_Net_links, k_Net_links⟩,
    a_Net_doors := f_Net_doors,
    d_Net_doors := _,
    F_Net_doors := F_Net_doors,
    b_Net_doors := b_Net_doors,
    me_Net_doors := ⟨a_Net_doors, i_Net_doors, k_Net_doors⟩,
    a_Net__link := f_Net__link,
    d_Net__link := _,
    F_Net__link := F_Net__link,
    b_Net__link := b_Net__link,
    me_Net__link := ⟨a_Net__link, i_Net__link, k_Net__link⟩,
    a_Net_beyond := f_Net_beyond,
    d_Net_beyond := _,
    F_Net_beyond := F_Net_beyond,
    b_Net_beyond := b_Net_beyond,
    me_Net_beyond := ⟨a_Net_beyond, i_Net_beyond, k_Net_beyond⟩,
    a_Net_cost := f_Net_cost,
    d_Net_cost := _,
    F_Net_cost := F_Net_cost,
    b_Net_cost := b_Net_cost,
    me_Net_cost := ⟨a_Net_cost, i_Net_cost, k_Net_cost⟩,
    a_kept := f_kept,
    d_kept := _,
    F_kept := F_kept,
    b_kept := b_kept,
    ds_kept := ds_kept,
    dv_kept := dv_kept,
    b1_kept := b1_kept,
    g_kept := PySem.W.mg_of X G a_kept,
    a_law := _,
    d_law := _,
    F_law := F_law,
    b_law := b_law,
    g_law := PySem.W.mg_of X G a_law,
    n_Net__handed := na_Net__handed,
    n_Net__rising := na_Net__rising,
    n_Net__links := na_Net__links,
    z_abs := PySem.W.mg_none_of X G z_abs,
    z_len := PySem.W.mg_none_of X G z_len,
    z_range := PySem.W.mg_none_of X G z_range,
    z_list := PySem.W.mg_none_of X G z_list,
    z_repr := PySem.W.mg_none_of X G z_repr,
    z_sorted := PySem.W.mg_none_of X G z_sorted,
    z_all := PySem.W.mg_none_of X G z_all,
    z_isinstance := PySem.W.mg_none_of X G z_isinstance,
    z_set := PySem.W.mg_none_of X G z_set,
    z_tuple := PySem.W.mg_none_of X G z_tuple,
    z_int := PySem.W.mg_none_of X G z_int,
    z_bool := PySem.W.mg_none_of X G z_bool,
    z_dict := PySem.W.mg_none_of X G z_dict,
    z_ValueError := PySem.W.mg_none_of X G z_ValueError,
    z_enumerate := PySem.W.mg_none_of X G z_enumerate,
    t_MOST_HALLS := t_MOST_HALLS,
    v_MOST_HALLS := PySem.W.mg_of X G v_MOST_HALLS,
    t_MOST_LINKS := t_MOST_LINKS,
    v_MOST_LINKS := PySem.W.mg_of X G v_MOST_LINKS,
    t_LAST_HALL := t_LAST_HALL,
    v_LAST_HALL := PySem.W.mg_of X G v_LAST_HALL,
    t_MOST_COST := t_MOST_COST,
    v_MOST_COST := PySem.W.mg_of X G v_MOST_COST }
  have XL : ExI l.prog K mg "NoLink" s_NoLink___init__ "NoLink.__init__" C_NoLink fx_NoLink ccx_NoLink cx_NoLink _ := ⟨⟨⟨_, _, _, _, _, _, _, _, rfl, x2_NoLink, x3_NoLink⟩, x4_NoLink⟩, ⟨⟨⟨_, _, _, _, _, _, _, _, _, _, _, _, _, _, _, x5_NoLink, rfl⟩, x7_NoLink, x8_NoLink, x9_NoLink, x10_NoLink⟩, ⟨_, _, _, x11_NoLink⟩, ⟨_, _, _, _, _, _, x12_NoLink, x13_NoLink, x14_NoLink⟩, x15_NoLink, x16_NoLink, x17_NoLink, xo, PySem.W.mg_none_of X G xs, htop⟩, x18_NoLink, x1_NoLink, x19_NoLink, .all fun us hl => (match us, hl with | [_, _], _ => rfl), PySem.W.mg_of X G aC_NoLink⟩
  have XH : ExI l.prog K mg "NoHall" s_NoHall___init__ "NoHall.__init__" C_NoHall fx_NoHall ccx_NoHall cx_NoHall _ := ⟨⟨⟨_, _, _, _, _, _, _, _, rfl, x2_NoHall, x3_NoHall⟩, x4_NoHall⟩, ⟨⟨⟨_, _, _, _, _, _, _, _, _, _, _, _, _, _, _, x5_NoHall, rfl⟩, x7_NoHall, x8_NoHall, x9_NoHall, x10_NoHall⟩, ⟨_, _, _, x11_NoHall⟩, ⟨_, _, _, _, _, _, x12_NoHall, x13_NoHall, x14_NoHall⟩, x15_NoHall, x16_NoHall, x17_NoHall, xo, PySem.W.mg_none_of X G xs, htop⟩, x18_NoHall, x1_NoHall, x19_NoHall, .all fun us hl => (match us, hl with | [_, _], _ => rfl), PySem.W.mg_of X G aC_NoHall⟩
  have exm : ∀ {C : Addr}, PySem.W.subIn K (.ref C) (.ref C_RingError) = some true → PySem.W.exmOne K (.ref C) (.ref C_RingError) = some true := fun h => by
    unfold PySem.W.exmOne PySem.W.kitCls
    rw [if_pos (by rw [xr1_RingError]; rfl)]
    dsimp only
    rw [if_pos (by rw [cls_some xr3_RingError, xr2_RingError]; rfl), h]
  let Z : Tz l.prog K mg T := {
    fL := _, ccL := _, cL := _, dL := _, XL := XL, fH := _, ccH := _, cH := _, dH := _, XH := XH,
    eL := ⟨x20_NoLink, x21_NoLink, x8_NoLink, x22_NoLink, x23_NoLink, xcg, xct, x24_NoLink⟩, eH := ⟨x20_NoHall, x21_NoHall, x8_NoHall, x22_NoHall, x23_NoHall, xcg, xct, x24_NoHall⟩,
    xL := ⟨x20_NoLink, x21_NoLink, x8_NoLink, x22_NoLink⟩, xH := ⟨x20_NoHall, x21_NoHall, x8_NoHall, x22_NoHall⟩, mL := exm x25_NoLink, mH := exm x25_NoHall,
    vL := qkv_NoLink, vH := qkv_NoHall, kL := fun p h => by
      simp only [List.mem_cons, List.not_mem_nil, or_false] at h
      rcases h with rfl | rfl | rfl | rfl | rfl | rfl | rfl
      · exact qkx_NoLink_Cut
      · exact qkx_NoLink_NoLetter
      · exact qkx_NoLink_Runs
      · exact qkx_NoLink_Stands
      · exact qkx_NoLink_Stopped
      · exact qkx_NoLink_NoLink
      · exact qkx_NoLink_NoHall
    kH := fun p h => by
      simp only [List.mem_cons, List.not_mem_nil, or_false] at h
      rcases h with rfl | rfl | rfl | rfl | rfl | rfl | rfl
      · exact qkx_NoHall_Cut
      · exact qkx_NoHall_NoLetter
      · exact qkx_NoHall_Runs
      · exact qkx_NoHall_Stands
      · exact qkx_NoHall_Stopped
      · exact qkx_NoHall_NoLink
      · exact qkx_NoHall_NoHall
}
  exact ⟨_, fun s v => .of_eq rfl, fun base _ _ => ok_law T Z⟩
end K03
open PySem PySem.W PyProof.Rows
set_option maxHeartbeats 0 in
theorem PySem.Challenge.cw_ringless_k03_strange_doors_holds : PySem.Challenge.rw_ringless_k03_strange_doors.Holds := by
  w_on; o_law; k_head; (case hw => w_witness2)
  k_fill
  refine MyG.walk_ofG (l := PySem.Challenge.rw_ringless_k03_strange_doors) (n := 63) (k := 14) (x := "_law_script") (CX := fun _ => L2.CX0) (sp := fun w => K03.sp_law _) rfl (by decide) rfl ⟨rfl, by decide, by decide⟩ (fun w h Y => PySem.W.kIn_of Y) ?F (fun w H a ns hl _ hS => K03.law_start _ _ _ _ hl hS) (fun _ _ _ _ _ h => h)
  case F =>
    intro w mg fa h KX G hmg
    refine' K03.all_mk KX G hmg ?aC_Net ?pg_Net ?hd_Net ?po_Net ?sa_Net ?mk_Net ?kc_Net ?aC_RingError ?aC_NoLink ?aC_NoHall ?aC_NoLetter ?aC_Cut ?aC_Runs ?aC_Stands ?aC_Stopped ?a_l_state ?l_l_state ?c_l_state ?k_l_state ?a_l_draw ?l_l_draw ?c_l_draw ?k_l_draw ?a_l_places ?l_l_places ?c_l_places ?k_l_places ?a_l_roads ?l_l_roads ?c_l_roads ?k_l_roads ?a_l_thing ?l_l_thing ?c_l_thing ?k_l_thing ?a_l_is_number ?l_l_is_number ?c_l_is_number ?k_l_is_number ?a_l_called ?l_l_called ?c_l_called ?k_l_called ?a_l_tried ?l_l_tried ?c_l_tried ?k_l_tried ?a_is_number ?l_is_number ?c_is_number ?k_is_number ?a__are_halls ?l__are_halls ?c__are_halls ?k__are_halls ?a__is_link ?l__is_link ?c__is_link ?k__is_link ?a__are_links ?l__are_links ?c__are_links ?k__are_links ?a_Net___init__ ?i_Net___init__ ?l_Net___init__ ?c_Net___init__ ?k_Net___init__ ?a_Net_halls ?i_Net_halls ?l_Net_halls ?c_Net_halls ?k_Net_halls ?a_Net_links ?i_Net_links ?l_Net_links ?c_Net_links ?k_Net_links ?a_Net_doors ?i_Net_doors ?l_Net_doors ?c_Net_doors ?k_Net_doors ?a_Net__link ?i_Net__link ?l_Net__link ?c_Net__link ?k_Net__link ?a_Net_beyond ?i_Net_beyond ?l_Net_beyond ?c_Net_beyond ?k_Net_beyond ?a_Net_cost ?i_Net_cost ?l_Net_cost ?c_Net_cost ?k_Net_cost ?a_kept ?l_kept ?t_kept ?c_kept ?k_kept ?a_law ?l_law ?c_law ?k_law ?na_Net__handed ?na_Net__rising ?na_Net__links ?z_abs ?z_len ?z_range ?z_list ?z_repr ?z_sorted ?z_all ?z_isinstance ?z_set ?z_tuple ?z_int ?z_bool ?z_dict ?z_ValueError ?z_enumerate ?v_MOST_HALLS ?v_MOST_LINKS ?v_LAST_HALL ?v_MOST_COST ?xo ?htop ?xs ?xcg ?xct ?xr1_RingError ?xr2_RingError ?xr3_RingError ?x1_NoLink ?x2_NoLink ?x3_NoLink ?x4_NoLink ?x5_NoLink ?x7_NoLink ?x8_NoLink ?x9_NoLink ?x10_NoLink ?x11_NoLink ?x12_NoLink ?x13_NoLink ?x14_NoLink ?x15_NoLink ?x16_NoLink ?x17_NoLink ?x18_NoLink ?x19_NoLink ?x20_NoLink ?x21_NoLink ?x22_NoLink ?x23_NoLink ?x24_NoLink ?x25_NoLink ?qkv_NoLink ?qkx_NoLink_Cut ?qkx_NoLink_NoLetter ?qkx_NoLink_Runs ?qkx_NoLink_Stands ?qkx_NoLink_Stopped ?qkx_NoLink_NoLink ?qkx_NoLink_NoHall ?x1_NoHall ?x2_NoHall ?x3_NoHall ?x4_NoHall ?x5_NoHall ?x7_NoHall ?x8_NoHall ?x9_NoHall ?x10_NoHall ?x11_NoHall ?x12_NoHall ?x13_NoHall ?x14_NoHall ?x15_NoHall ?x16_NoHall ?x17_NoHall ?x18_NoHall ?x19_NoHall ?x20_NoHall ?x21_NoHall ?x22_NoHall ?x23_NoHall ?x24_NoHall ?x25_NoHall ?qkv_NoHall ?qkx_NoHall_Cut ?qkx_NoHall_NoLetter ?qkx_NoHall_Runs ?qkx_NoHall_Stands ?qkx_NoHall_Stopped ?qkx_NoHall_NoLink ?qkx_NoHall_NoHall
    (case aC_Net => k_is)
    (case pg_Net => k_is)
    (case hd_Net => k_is)
    (case po_Net => k_is)
    (case sa_Net => k_is)
    (case mk_Net => k_is)
    (case kc_Net => k_is)
    (case aC_RingError => k_is)
    (case aC_NoLink => k_is)
    (case aC_NoHall => k_is)
    (case aC_NoLetter => k_is)
    (case aC_Cut => k_is)
    (case aC_Runs => k_is)
    (case aC_Stands => k_is)
    (case aC_Stopped => k_is)
    (case a_l_state => k_is)
    (case l_l_state => k_is)
    (case c_l_state => k_is)
    (case k_l_state => k_is)
    (case a_l_draw => k_is)
    (case l_l_draw => k_is)
    (case c_l_draw => k_is)
    (case k_l_draw => k_is)
    (case a_l_places => k_is)
    (case l_l_places => k_is)
    (case c_l_places => k_is)
    (case k_l_places => k_is)
    (case a_l_roads => k_is)
    (case l_l_roads => k_is)
    (case c_l_roads => k_is)
    (case k_l_roads => k_is)
    (case a_l_thing => k_is)
    (case l_l_thing => k_is)
    (case c_l_thing => k_is)
    (case k_l_thing => k_is)
    (case a_l_is_number => k_is)
    (case l_l_is_number => k_is)
    (case c_l_is_number => k_is)
    (case k_l_is_number => k_is)
    (case a_l_called => k_is)
    (case l_l_called => k_is)
    (case c_l_called => k_is)
    (case k_l_called => k_is)
    (case a_l_tried => k_is)
    (case l_l_tried => k_is)
    (case c_l_tried => k_is)
    (case k_l_tried => k_is)
    (case a_is_number => k_is)
    (case l_is_number => k_is)
    (case c_is_number => k_is)
    (case k_is_number => k_is)
    (case a__are_halls => k_is)
    (case l__are_halls => k_is)
    (case c__are_halls => k_is)
    (case k__are_halls => k_is)
    (case a__is_link => k_is)
    (case l__is_link => k_is)
    (case c__is_link => k_is)
    (case k__is_link => k_is)
    (case a__are_links => k_is)
    (case l__are_links => k_is)
    (case c__are_links => k_is)
    (case k__are_links => k_is)
    (case a_Net___init__ => k_is)
    (case i_Net___init__ => k_is)
    (case l_Net___init__ => k_is)
    (case c_Net___init__ => k_is)
    (case k_Net___init__ => k_is)
    (case a_Net_halls => k_is)
    (case i_Net_halls => k_is)
    (case l_Net_halls => k_is)
    (case c_Net_halls => k_is)
    (case k_Net_halls => k_is)
    (case a_Net_links => k_is)
    (case i_Net_links => k_is)
    (case l_Net_links => k_is)
    (case c_Net_links => k_is)
    (case k_Net_links => k_is)
    (case a_Net_doors => k_is)
    (case i_Net_doors => k_is)
    (case l_Net_doors => k_is)
    (case c_Net_doors => k_is)
    (case k_Net_doors => k_is)
    (case a_Net__link => k_is)
    (case i_Net__link => k_is)
    (case l_Net__link => k_is)
    (case c_Net__link => k_is)
    (case k_Net__link => k_is)
    (case a_Net_beyond => k_is)
    (case i_Net_beyond => k_is)
    (case l_Net_beyond => k_is)
    (case c_Net_beyond => k_is)
    (case k_Net_beyond => k_is)
    (case a_Net_cost => k_is)
    (case i_Net_cost => k_is)
    (case l_Net_cost => k_is)
    (case c_Net_cost => k_is)
    (case k_Net_cost => k_is)
    (case a_kept => k_is)
    (case l_kept => k_is)
    (case t_kept => k_is)
    (case c_kept => k_is)
    (case k_kept => k_is)
    (case a_law => k_is)
    (case l_law => k_is)
    (case c_law => k_is)
    (case k_law => k_is)
    (case na_Net__handed => k_is)
    (case na_Net__rising => k_is)
    (case na_Net__links => k_is)
    (case z_abs => k_is)
    (case z_len => k_is)
    (case z_range => k_is)
    (case z_list => k_is)
    (case z_repr => k_is)
    (case z_sorted => k_is)
    (case z_all => k_is)
    (case z_isinstance => k_is)
    (case z_set => k_is)
    (case z_tuple => k_is)
    (case z_int => k_is)
    (case z_bool => k_is)
    (case z_dict => k_is)
    (case z_ValueError => k_is)
    (case z_enumerate => k_is)
    (case v_MOST_HALLS => k_is)
    (case v_MOST_LINKS => k_is)
    (case v_LAST_HALL => k_is)
    (case v_MOST_COST => k_is)
    (case xo => k_is)
    (case htop => (first | rfl | decide +kernel))
    (case xs => k_is)
    (case xcg => k_is)
    (case xct => k_is)
    (case xr1_RingError => k_is)
    (case xr2_RingError => k_is)
    (case xr3_RingError => k_is)
    (case x1_NoLink => k_is)
    (case x2_NoLink => k_is)
    (case x3_NoLink => k_is)
    (case x4_NoLink => k_is)
    (case x5_NoLink => k_is)
    (case x7_NoLink => k_is)
    (case x8_NoLink => k_is)
    (case x9_NoLink => k_is)
    (case x10_NoLink => k_is)
    (case x11_NoLink => k_is)
    (case x12_NoLink => k_is)
    (case x13_NoLink => (first | rfl | decide +kernel))
    (case x14_NoLink => (first | rfl | decide +kernel))
    (case x15_NoLink => ks_is)
    (case x16_NoLink => k_is)
    (case x17_NoLink => k_is)
    (case x18_NoLink => k_is)
    (case x19_NoLink => k_is)
    (case x20_NoLink => k_is)
    (case x21_NoLink => k_is)
    (case x22_NoLink => k_is)
    (case x23_NoLink => k_is)
    (case x24_NoLink => k_is)
    (case x25_NoLink => k_is)
    (case qkv_NoLink => kit_is)
    (case qkx_NoLink_Cut => kit_is)
    (case qkx_NoLink_NoLetter => kit_is)
    (case qkx_NoLink_Runs => kit_is)
    (case qkx_NoLink_Stands => kit_is)
    (case qkx_NoLink_Stopped => kit_is)
    (case qkx_NoLink_NoLink => kit_is)
    (case qkx_NoLink_NoHall => kit_is)
    (case x1_NoHall => k_is)
    (case x2_NoHall => k_is)
    (case x3_NoHall => k_is)
    (case x4_NoHall => k_is)
    (case x5_NoHall => k_is)
    (case x7_NoHall => k_is)
    (case x8_NoHall => k_is)
    (case x9_NoHall => k_is)
    (case x10_NoHall => k_is)
    (case x11_NoHall => k_is)
    (case x12_NoHall => k_is)
    (case x13_NoHall => (first | rfl | decide +kernel))
    (case x14_NoHall => (first | rfl | decide +kernel))
    (case x15_NoHall => ks_is)
    (case x16_NoHall => k_is)
    (case x17_NoHall => k_is)
    (case x18_NoHall => k_is)
    (case x19_NoHall => k_is)
    (case x20_NoHall => k_is)
    (case x21_NoHall => k_is)
    (case x22_NoHall => k_is)
    (case x23_NoHall => k_is)
    (case x24_NoHall => k_is)
    (case x25_NoHall => k_is)
    (case qkv_NoHall => kit_is)
    (case qkx_NoHall_Cut => kit_is)
    (case qkx_NoHall_NoLetter => kit_is)
    (case qkx_NoHall_Runs => kit_is)
    (case qkx_NoHall_Stands => kit_is)
    (case qkx_NoHall_Stopped => kit_is)
    (case qkx_NoHall_NoLink => kit_is)
    (case qkx_NoHall_NoHall => kit_is)
