import PyProof.Rows.All
import Wide.All
import OpenK.AllK
import Wide.FinOn
import HandS.ForMost
import HandS.Evl
import HandS.MakeKw
import HandS.MakeKwOnly
import HandS.IsInst
import PyProof.ReprRoads
import HandS.Zip
import PyProof.Rows.SetFrom
import PyProof.ReprLen
import HandS.OwnEq
import PyProof.NeKinds
import HandS.Style
import KE.KSortedM
import HandS.Flow
import HandS.TupAny
import HandS.DictComp
import HandS.DictTup
import HandS.Walk
import KE.KDictWalk
import HandS.More
import HandS.Text
import HandS.StrMore
import HandS.FStr
import PyProof.StrBlock2
import PyProof.StrLaws
import HandS.NamedTupGet
import HandS.SortRule
import HandS.Conv
import KE.KDictPairs
import KE.KDictSum
import KE.KDictOf
import KE.KDictCopyH
import PySem.Challenge.RW_ringless_k19_whole_posts_by_any_order
set_option Elab.async false
set_option linter.all false
set_option maxRecDepth 100000
set_option maxHeartbeats 2000000
/-! My own additions to the hand layer: defs that know that no repr is under way (so that they may call repr), repr of data, a method called by keywords alone. -/
namespace MyG
open PySem PySem.Spec PyProof.Rows L2

/-- a promise that is kept where no guarded call is under way -/
structure FnOkG (P : Program) (w : World) (K : PySem.W.Frag) (mg : Str → Option Value) (base : Heap) (CX : CXT) (k : Nat) (f : Addr) (fd : FuncData) (ps : List Str) (sp : Sp) : Prop where
  lenG : ∀ vs H Q E, sp vs H Q E → vs.length = ps.length
  runG : ∀ (A : Around) (fr : List Env) (s : Shared) (H : Hp) (as : Args) (us : List Value) (vs : List V) (Q : VK) (E : XK), A.guards = some [] → Room k A → Env0 P w K mg base A fr s H →
    BindsTo s fd as (ps.zip us) → Vals vs us → sp vs H Q E → codeAny (model P w) A (.call (.ref f) as) (CR CX fr P w H s Q E) s

section
variable {P : Program} {w : World} {K : PySem.W.Frag} {mg : Str → Option Value} {base : Heap} {CX : CXT} {k : Nat} {f : Addr} {fd : FuncData} {ps N : List Str} {sp : Sp} {x q : Str} {st : Stmt}
theorem FnOkG.of (F : FnOk P w K mg base CX k f fd ps sp) : FnOkG P w K mg base CX k f fd ps sp :=
  ⟨F.len, fun A fr s H as us vs Q E _ => F.run A fr s H as us vs Q E⟩

/-- a def's body, where no guarded call is under way: for defs from which nothing is raised -/
theorem okG (F : Fun K x q st f fd) (S : FnScope N ps (defScope st)) (hlen : ∀ vs H Q E, sp vs H Q E → vs.length = ps.length)
    (hbody : ∀ (cdv : Value) (A : Around) (fr : List Env) (s : Shared) (H : Hp) (vs : List V) (Q : VK) (E : XK), (A.deeper (envOfC q (defScope st) s.heap.objs.size f cdv)).guards = some [] →
      Room k (A.deeper (envOfC q (defScope st) s.heap.objs.size f cdv)) → sp vs H Q E →
      ∃ t, PSs (cxOf CX0 P w K mg base N q (defScope st) f cdv A fr s H E).nox (defBody st) t ∧ t { nx := fun _ H' => Q .non H', rt := Q } (start N vs) H) :
    FnOkG P w K mg base CX0 (k + 1) f fd ps sp := by
  obtain ⟨oc, od, kV, doc, pm, an, cdv, ct, osl, hfd, hlook, hcode⟩ := F.ex
  subst hfd
  constructor
  · exact hlen
  intro A fr s H as us vs Q E hgd room e0 hbind rel hs
  have kin : K.In s.heap := e0.mod.kin.keeps (fun b o h => (e0.bs b o h).1)
  have nol : s.heap.NoLimit := e0.mod.nolimit.keeps (fun b o h => (e0.bs b o h).1)
  have params : ∀ y ∈ ps.zip us, (defScope st).names.lookup y.1 = some .local ∨ ((defScope st).names.lookup y.1 = some .cell ∧ ((cellsFrom (s.heap.objs.size + 1) (defScope st).names []).lookup y.1).isSome = true) := by
    intro y hy
    have hy1 : y.1 ∈ ps := (List.of_mem_zip (show (y.1, y.2) ∈ ps.zip us from hy)).1
    cases S.par y.1 hy1 with
    | inl h => exact Or.inl h
    | inr h => exact Or.inr ⟨h, PySem.W.cellsFrom_some _ _ _ (Or.inl h)⟩
  refine codeAny_call_function room.depth (kin _ _ hlook) rfl S.co S.gen rfl (PySem.W.codeRec_of kin hcode) (hbind _ _ _ _ ?_)
  refine wpAny_newFunctionEnv_cells S.kind params (fun env henv s1 hin => ?_)
  subst henv
  obtain ⟨t, hterm, hread⟩ := hbody cdv A fr s H vs Q E hgd (room.deeper _) hs
  have inv := inv_start (CX := CX0) (E := E) S room.hd e0 (hlen _ _ _ _ hs) rel hin
  refine ⟨nol.keeps hin.toInCall.keep, codeAny_func (wpAny_mono (hterm.nox.run [] s1 (start N vs) H _ inv hread) ?_ (fun _ _ h => h))⟩
  intro fl s' hsp
  match fl, hsp with
  | .ret u, hsp =>
    obtain ⟨v, σ', H', J, rv, hq⟩ := hsp
    exact ⟨v, H', J.os, J.bare, J.base, J.hok, rv, hq⟩
  | .next, hsp =>
    obtain ⟨σ', H', J, hq⟩ := hsp
    exact ⟨V.non, H', J.os, J.bare, J.base, J.hok, rfl, hq⟩
  | .brk, hsp => exact hsp.choose_spec.choose_spec.2.elim
  | .cont, hsp => exact hsp.choose_spec.choose_spec.2.elim
end

section
variable {X : Cx} {CX : CXT} {k : Nat} {f C : Addr} {fd : FuncData} {ps ks : List Str} {sp : Sp} {dvs : List V} {ds : List Value} {E : XK} {x m : Str} {p pos apos : Pos} {e o : Expr} {es : List Expr} {ta : TE} {t tk : TA} {kws : List Keyword}
  {g : List Value → List Value → List Value} {gV : List V → List V → List V}
theorem runG_fn {pins : List (Addr × Obj)} {σ : L2.St} {H : Hp} {s : Shared} {Q : VK} {us : List Value} {vs : List V} (F : FnOkG X.prog X.w X.K X.mg X.base CX k f fd ps sp) (hgd : X.A.guards = some []) (room : Room k X.A) (hb : Binds X.K fd ps ds)
    (hd : Vals dvs ds) (hx : Passes CX X E) (I : Inv X pins σ H s) (r : Vals vs us) (h : sp (vs ++ dvs) H Q E) : wpAny (model X.prog X.w) X.A (call (.ref f) us) (EP X pins σ Q) X.xe s := by
  have rel : Vals (vs ++ dvs) (us ++ ds) := r.append hd
  have hlen : (us ++ ds).length = ps.length := rel.length.symm.trans (F.lenG _ _ _ _ h)
  refine wpAny_call (codeAny_mono (F.runG X.A X.stack s H ⟨us, []⟩ (us ++ ds) (vs ++ dvs) Q E hgd room I.env0 (hb s us I.kIn hlen) rel h) (fun r s' hq => ?_))
  match r, hq with
  | .error e, hq => exact hx pins σ H s e s' I hq
  | .ok (.ret u), hq => exact I.after hq
/-- f(e, ..) -/
theorem pe_callG (F : FnOkG X.prog X.w X.K X.mg X.base CX k f fd ps sp) (hgd : X.A.guards = some []) (room : Room k X.A) (hg : Gl X x) (hm : X.mg x = some (.ref f)) (hk : PySem.W.keepIn X.K (.ref f) = true) (hb : Binds X.K fd ps ds) (hd : Vals dvs ds)
    (hx : Passes CX X E) (ha : PA X (e :: es) t) (hdb : (x == ("__debug__" : Str)) = false := by decide) (he : starEach (e :: es) X.env = (false, eval e X.env) :: starEach es X.env := by rfl)
    (hpl : (backTo pos (starEach es X.env)).any (·.1) = false := by rfl) : PE X (.Call (.Name x p) (e :: es) [] pos) (tCall sp dvs E t) := by
  constructor
  intro pins s σ H Q I h
  refine wpAny_Call_Name_kw (ld_glob I hg hm (PySem.W.callWith_K (h₀ := X.base) I.ok.mod.kin hk (thn (ha.run pos pins s σ H _ I h) ?_) he hpl) hdb)
  rintro us s1 ⟨vs, H1, I1, r, hq⟩
  exact ⟨I1.kIn, runG_fn F hgd room hb hd hx I1 r hq⟩

/-- o.m(k = v, ..): keywords alone -/
def tMethK (C : Addr) (m : Str) (n : Nat) (sp : Sp) (gV : List V → List V → List V) (E : XK) (ta : TE) (tk : TA) : TE := fun σ H Q => ta σ H fun x H1 => ∃ a dx fs, x = .ref a ∧ H1 a = some (.ins C dx fs) ∧ fs.lookup m = none ∧
  tk σ H1 fun zs H2 => zs.length = n ∧ sp (gV [x] zs) H2 Q E
theorem pe_methK0 {pl : Sem Bool} (he : PE X o ta) (c : Cls X.K C) (hm : Meth X.K C m f) (F : FnOk X.prog X.w X.K X.mg X.base CX k f fd ps sp) (room : Room k X.A) (hb : KBn X.K fd ps 1 ks g gV) (hx : Passes CX X E) (hkw : PK X kws tk)
    (hall : (backToKw pos (keywordEach kws X.env)).all (·.1.isSome) = true := by rfl) (hks : (backToKw pos (keywordEach kws X.env)).filterMap (·.1) = ks := by rfl)
    (hpl : ((backTo pos (starEach [] X.env)).any (·.1) || (backToKw pos (keywordEach kws X.env)).any (·.1.isNone)) = false := by rfl)
    (ht : eval (.Call (.Attribute o m apos) [] kws pos) X.env = (do
      let ov ← eval o X.env
      standAt apos.atName
      let (f, first) ← holding [ov] (getMethod ov m pl)
      callWith pos f first (backTo pos (starEach [] X.env)) (backToKw pos (keywordEach kws X.env))) := by rfl) :
    PE X (.Call (.Attribute o m apos) [] kws pos) (tMethK C m ks.length sp gV E ta tk) := by
  constructor
  intro pins s σ H Q I h
  refine PySem.W.methodCall_KW (pl := pl) (thn (he.run pins s σ H _ I h) ?_) ht
  rintro u s1 ⟨x, H1, I1, rx, a, dx, fs, ex, ea, l, hq⟩
  subst ex
  obtain rfl : u = Value.ref a := rx
  refine getmeth_ok I1 ea c hm l (PySem.W.callWith_KW0 (h₀ := X.base) I1.ok.mod.kin hm.kp hall (thn (hkw.run pos pins s1 σ H1 _ I1 hq) ?_) hpl)
  rintro ws s2 ⟨zs, H2, I2, rz, l2, hs⟩
  refine ⟨I2.kIn, ?_⟩
  rw [hks]
  exact run_fnN (us := [.ref a]) (vs := [.ref a]) F room hb hx I2 (.cons rfl .nil) rz rfl l2 hs
end

/-- how keywords bind, for a def without defaults -/
theorem kbn_of {K : PySem.W.Frag} {x q : Str} {st : Stmt} {f : Addr} {fd : FuncData} {ps ks : List Str} {n : Nat} {g : List Value → List Value → List Value} {gV : List V → List V → List V} (F : Fun K x q st f fd)
    (h : ∀ (kV doc pm : Value) (an : Option Addr) (cdv ct : Value) (us ws : List Value), us.length = n → ws.length = ks.length → bindArgs (PySem.W.fnOf x q (defArgs st) (defBody st) (defScope st) .none kV doc pm an cdv ct) ⟨us, ks.zip ws⟩ = pure (ps.zip (g us ws)))
    (rel : ∀ {vs : List V} {us : List Value} {zs : List V} {ws : List Value}, Vals vs us → Vals zs ws → Vals (gV vs zs) (g us ws)) : KBn K fd ps n ks g gV := by
  obtain ⟨oc, od, kV, doc, pm, an, cdv, ct, osl, hfd, hlook, hcode⟩ := F.ex
  subst hfd
  exact ⟨fun s us ws _ l1 l2 => .of_eq (h kV doc pm an cdv ct us ws l1 l2), rel⟩

/-! ### repr of data -/
section
variable {X : Cx}
def rReprD (K : PySem.W.Frag) : List V → Hp → VK → Prop := fun xs H Q => ∃ x d, xs = [x] ∧ Dp K H x d ∧ d.showable = true ∧ d.hasDict = false ∧ d.depth ≤ 40 ∧ d.shown.length ≤ sizeLine ∧ Q (.str d.shown) H
theorem call_reprD {k : Nat} (hgd : X.A.guards = some []) (room : Room k X.A) : CallR X (.builtin "repr") (rReprD X.K) := by
  intro pins s σ H xs us Q I r h
  obtain ⟨x, d, rfl, hd, hs, hnd, hdep, hsz, hq⟩ := h
  obtain ⟨u, rfl, rx⟩ := vals1 r
  have un := room.units
  have fin : ∀ h' v tk, (∀ b o, s.heap.get? b = some o → h'.get? b = some o) → EP X pins σ Q (.str d.shown v) { s with heap := h', toks := tk } := fun h' v tk kp => ⟨.str d.shown, H, I.kept kp, ⟨_, rfl⟩, hq⟩
  obtain ⟨as, rd⟩ := Dp.reads I d x u hd rx
  cases rd with
  | none => exact PySem.P.repr_of_none (fin s.heap _ _ fun _ _ e => e)
  | bool b => cases b <;> exact PySem.P.repr_of_bool (fin s.heap _ _ fun _ _ e => e)
  | int i t =>
    refine PySem.P.repr_of_int (by simpa [PyData.showable] using hs) (fin s.heap _ _ fun _ _ e => e)
  | str y t => exact PySem.P.repr_of_str (fin s.heap _ _ fun _ _ e => e) hsz
  | list h1 h2 h3 h4 => exact repr_of_reads' (.list h1 h2 h3 h4) hs (fun z => by rw [hnd] at z; cases z) hgd (by omega) (fun _ _ e => e) fin hsz
  | tuple h1 h2 h3 h4 => exact repr_of_reads' (.tuple h1 h2 h3 h4) hs (fun z => by rw [hnd] at z; cases z) hgd (by omega) (fun _ _ e => e) fin hsz
  | dict h1 h2 h3 h4 h5 => simp [PyData.hasDict] at hnd
end
end MyG

/-! ### the law's own call, and the end of a row -/
namespace MyG
open PySem PySem.Spec PyProof.Rows L2
section
variable {P : Program} {w : World} {K : PySem.W.Frag} {mg mb : Str → Option Value} {CX : CXT} {k : Nat} {fa a : Addr} {fd : FuncData} {x : Str} {sp : Sp} {s₁ : Shared} {vs : List Value} {ns : List Int}
/-- from one abstract heap that knows at most the script -/
theorem lawG_at (H : Hp) (KX : K.In s₁.heap) (hns : s₁.heap.Ns mainGlobals mg) (hb : s₁.heap.Ns builtinsNs mb) (hbb : ∀ x : Str, x ≠ "__name__" → mb x = bootBuiltins x) (hlim : s₁.heap.NoLimit) (hgen : s₁.gens = #[])
    (ha : s₁.heap.get? a = some { cls := .type "list", data := .seq vs.toArray }) (room : Room k callerA)
    (F : ∀ base : Heap, K.In base → base.Ns mainGlobals mg → FnOkG P w K mg base CX k fa fd [x] sp) (hbind : ∀ (s : Shared) (u : Value), BindsTo s fd ⟨[u], []⟩ [(x, u)])
    (hsp : sp [.ref a] H (fun v _ => v = .bl true) fun _ _ _ => False) (hCX : ∀ e s', CX [] H s₁ (fun _ _ _ => False) e s' → False)
    (only : Only H) (hok : HOk P w H s₁.heap) (hA : ∀ b, H b ≠ none → b = a) (hK : H a ≠ none → K.lookup a = none) :
    codeAny (model P w) callerA (.call (.ref fa) ⟨[.ref a], []⟩) (fun r s' => r = .ok (.ret (.bool true)) ∧ OldK s₁.heap s'.heap ∧ s'.os = s₁.os ∧ AllBare s'.gens) s₁ := by
  have free : ∀ b : Addr, b ≠ a → H b = none := fun b hb => by
    cases e : H b with
    | none => rfl
    | some u => exact absurd (hA b (by rw [e]; exact fun z => nomatch z)) hb
  have hid : ∀ {b : Addr} {o : Obj}, s₁.heap.get? b = some o → H b = none → (hidT s₁.heap H).get? b = some o := fun h1 h2 => hidT_get h1 h2
  have dictFree : ∀ {b : Addr} {o : Obj} {es : Array DictEntry} {ep : Nat}, s₁.heap.get? b = some o → o.data = .dict es ep → H b = none := by
    intro b o es ep h1 h2
    by_cases hb : b = a
    · rw [hb, ha] at h1
      obtain rfl := Option.some.inj h1
      exact absurd h2 (fun z => nomatch z)
    · exact free b hb
  have nsH : ∀ {b : Addr} {m : Str → Option Value}, s₁.heap.Ns b m → (hidT s₁.heap H).Ns b m := by
    rintro b m ⟨o, es, ep, h1, h2, h3⟩
    exact ⟨o, es, ep, hid h1 (dictFree h1 h2), h2, h3⟩
  have kin : K.In (hidT s₁.heap H) := by
    intro b o h1
    refine hid (KX b o h1) ?_
    by_cases hb : b = a
    · cases e : H a with
      | none => rw [hb]; exact e
      | some u =>
        have z := hK (by rw [e]; exact fun z => nomatch z)
        rw [hb, z] at h1
        cases h1
    · exact free b hb
  have md : Mod K mg (hidT s₁.heap H) := by
    obtain ⟨mc, l1, l2⟩ := hlim
    exact ⟨kin, nsH hns, ⟨mb, nsH hb, hbb⟩, ⟨mc, nsH l1, l2⟩⟩
  have env : Env0 P w K mg (hidT s₁.heap H) callerA [] s₁ H := { frames := rfl, mod := md, bs := fun b o h1 => of_hidT h1, bsz := Nat.le_of_eq (hidT_size _ _), funs := trivial, frf := fun b hb => (List.not_mem_nil hb).elim, hok := hok, bare := .of_eq hgen }
  refine codeAny_mono ((F _ kin (nsH hns)).runG callerA [] s₁ H ⟨[.ref a], []⟩ [.ref a] [.ref a] _ _ rfl room env (hbind s₁ (.ref a)) (.cons rfl .nil) hsp) ?_
  intro r s' hr
  match r, hr with
  | .error e, hr => exact (hCX e s' hr).elim
  | .ok (.ret u), hr =>
    obtain ⟨v, H', hos, hbare, un, hok', rv, hv⟩ := hr
    obtain rfl : v = V.bl true := hv
    obtain rfl : u = Value.bool true := rv
    refine ⟨rfl, OldK.of_keep ?_, hos, hbare⟩
    intro b o h1
    rcases only b with z | ⟨ob, xs, z⟩
    · exact un.keep b o h1 z (fun q => (List.not_mem_nil q).elim) (fun q => (List.not_mem_nil q).elim)
    · have e1 := (hok b _ z).1
      have e2 := (hok' b _ (un.frzs b ob _ z)).1
      rw [h1] at e1
      rw [Option.some.inj e1]
      exact e2
theorem law_callG (KX : K.In s₁.heap) (hns : s₁.heap.Ns mainGlobals mg) (hb : s₁.heap.Ns builtinsNs mb) (hbb : ∀ x : Str, x ≠ "__name__" → mb x = bootBuiltins x) (hlim : s₁.heap.NoLimit) (hgen : s₁.gens = #[])
    (ha : s₁.heap.get? a = some { cls := .type "list", data := .seq vs.toArray }) (hi : IntsAre vs ns) (hl : ns.length ≤ sizeLine) (room : Room k callerA)
    (F : ∀ base : Heap, K.In base → base.Ns mainGlobals mg → FnOkG P w K mg base CX k fa fd [x] sp) (hbind : ∀ (s : Shared) (u : Value), BindsTo s fd ⟨[u], []⟩ [(x, u)])
    (hsp : ∀ H : Hp, Only H → SqL K H a (ns.map V.int) → sp [.ref a] H (fun v _ => v = .bl true) fun _ _ _ => False) (hCX : ∀ H e s', CX [] H s₁ (fun _ _ _ => False) e s' → False) :
    codeAny (model P w) callerA (.call (.ref fa) ⟨[.ref a], []⟩) (fun r s' => r = .ok (.ret (.bool true)) ∧ OldK s₁.heap s'.heap ∧ s'.os = s₁.os ∧ AllBare s'.gens) s₁ := by
  have rv := vals_ints hi
  have lenV := hi.length
  cases hk : K.lookup a with
  | some o =>
    have e1 := KX a o hk
    rw [ha] at e1
    obtain rfl := Option.some.inj e1
    have only : Only (fun _ => none) := fun b => .inl rfl
    refine lawG_at (fun _ => none) KX hns hb hbb hlim hgen ha room F hbind (hsp _ only ?_) (hCX _) only (fun b u z => nomatch z) (fun b z => absurd rfl z) (fun z => absurd rfl z)
    exact .inr ⟨_, vs.toArray, _, hk, rfl, rfl, rfl, by rw [List.size_toArray, lenV]; exact hl, by simpa using rv⟩
  | none =>
    have at_a : ∀ {o : HO}, (fun b => if b = a then some o else none : Hp) a = some o := if_pos rfl
    have off_a : ∀ {o : HO} {b : Addr}, b ≠ a → (fun b => if b = a then some o else none : Hp) b = none := fun h => if_neg h
    have only : Only (fun b => if b = a then some (.frz { cls := .type "list", data := .seq vs.toArray } (.lst (ns.map V.int))) else none) := fun b => by
      by_cases hb : b = a
      · exact .inr ⟨_, _, by rw [hb]; exact at_a⟩
      · exact .inl (off_a hb)
    refine lawG_at _ KX hns hb hbb hlim hgen ha room F hbind (hsp _ only (.inl (.inr ⟨_, at_a⟩))) (hCX _) only ?_ ?_ (fun _ => hk)
    · intro b u z
      by_cases hb : b = a
      · subst hb
        obtain rfl := Option.some.inj (at_a.symm.trans z)
        exact ⟨ha, by rw [List.length_map]; exact hl, vs, _, rv, ha⟩
      · exact absurd ((off_a hb).symm.trans z) (fun q => nomatch q)
    · intro b z
      by_cases hb : b = a
      · exact hb
      · exact absurd (off_a hb) z
end
theorem walk_ofG {l : PySem.W.OpenLaw} {n k : Nat} {q : Program} {loose : List Str} {XP : (Str → Option Value) → Heap → Prop} {YP : World → Heap → Prop} {d : DefRec} {K : Params → PySem.W.Frag} {CX : World → CXT} {sp : World → Sp} {x : Str}
    (hn : l.most = some n) (hn2 : n ≤ sizeLine) (hdf : d.params.defaults = []) (room : Room k callerA) (hY : ∀ (w : World) (h : Heap), YP w h → (K w.params).In h)
    (F : ∀ (w : World) (mg : Str → Option Value) (fa : Addr) (h : Heap), (K w.params).In h → h.Ns mainGlobals mg → mg d.name = some (.ref fa) →
      ∃ fd : FuncData, (∀ (s : Shared) (u : Value), BindsTo s fd ⟨[u], []⟩ [(x, u)]) ∧ ∀ base : Heap, (K w.params).In base → base.Ns mainGlobals mg → FnOkG l.prog w (K w.params) mg base (CX w) k fa fd [x] (sp w))
    (hsp : ∀ (w : World) (H : Hp) (a : Addr) (ns : List Int), ns.length ≤ n → Only H → SqL (K w.params) H a (ns.map V.int) → sp w [.ref a] H (fun v _ => v = .bl true) fun _ _ _ => False)
    (hCX : ∀ (w : World) (H : Hp) (s : Shared) (e : Value) (s' : Shared), CX w [] H s (fun _ _ _ => False) e s' → False) : PySem.W.WalkO q loose XP YP l.row.toRowW d [] (fun f vs => PySem.call f vs) := by
  refine Att.attach_call hn hdf ?_
  intro w s₀ s₁ mg mb fa o pm cd doc a vs ns G Y ho hd hcd hmg hobj hints hlen hgen
  obtain ⟨fd, hbind, hF⟩ := F w mg fa _ (hY w _ Y) G.T.g hmg
  exact law_callG (hY w _ Y) G.T.g G.T.b G.T.builtins G.T.nolimit hgen hobj hints (Nat.le_trans hlen hn2) room hF hbind (hsp w · a ns hlen · ·) (fun H e s' => hCX w H s₁ e s')
end MyG

set_option maxHeartbeats 2000000
/-! len(set(xs)) of whole numbers, alike or not; what stands for a thing of any kind. -/
namespace MyG
open PySem PySem.Spec PyProof.Rows L2 Evl
theorem met_len {ns : List Int} : ∀ i, i ≤ ns.length → (firstMet (fun i => ns.getD i 0) i).length = i → (ns.take i).Nodup
  | 0, _, _ => by simp
  | i + 1, hi, h => by
    have hlt : i < ns.length := hi
    rw [firstMet_succ] at h
    unfold step_dedup at h
    have le := firstMet_length_le (fun i => ns.getD i 0) i
    by_cases c : (firstMet (fun i => ns.getD i 0) i).any (· == ns.getD i 0) = true
    · rw [if_pos c] at h
      omega
    · rw [if_neg c, List.length_append, List.length_singleton] at h
      have ih := met_len i (Nat.le_of_lt hlt) (by omega)
      rw [firstMet_any] at c
      rw [List.take_add_one, List.getElem?_eq_getElem hlt]
      show (ns.take i ++ [ns[i]]).Nodup
      rw [List.nodup_append]
      refine ⟨ih, by simp, fun a ha b hb e => c ?_⟩
      obtain rfl := List.mem_singleton.mp hb
      subst e
      rw [List.any_eq_true]
      obtain ⟨j, hj, ej⟩ := List.getElem_of_mem ha
      rw [List.length_take] at hj
      refine ⟨ns.getD j 0, List.mem_map.mpr ⟨j, List.mem_range.mpr (by omega), rfl⟩, ?_⟩
      rw [List.getElem_take] at ej
      rw [List.getD_eq_getElem?_getD, List.getD_eq_getElem?_getD, List.getElem?_eq_getElem hlt, List.getElem?_eq_getElem (by omega : j < ns.length)]
      show (ns[j] == ns[i]) = true
      rw [ej]
      exact beq_self_eq_true _
theorem met_iff (ns : List Int) : (firstMet (fun i => ns.getD i 0) ns.length).length = ns.length ↔ ns.Nodup := by
  constructor
  · intro h
    have z := met_len ns.length (Nat.le_refl _) h
    rwa [List.take_length] at z
  · intro h
    rw [RZ.firstMet_nodup h ns.length (Nat.le_refl _), List.take_length]
def tLenSetG (K : PySem.W.Frag) (ta : TE) : TE := fun σ H Q => ta σ H fun x H1 => ∃ (l : Addr) (ns : List Int), x = .ref l ∧ SqL K H1 l (ns.map V.int) ∧ ns.length ≤ 4000 ∧ ∀ n : Nat, (n = ns.length ↔ ns.Nodup) → Q (.int n) H1
theorem pe_lenSetG {X : Cx} {a : Expr} {ta : TE} {p p2 q pos : Pos} (hg : Gl X "len") (hm : X.mg "len" = none) (hg2 : Gl X "set") (hm2 : X.mg "set" = none) (ha : PE X a ta) (hc : X.calm = true := by rfl)
    (na : starEach [a] X.env = (false, eval a X.env) :: starEach [] X.env := by rfl) : PE X (.Call (.Name "len" p) [.Call (.Name "set" p2) [a] [] q] [] pos) (tLenSetG X.K ta) := by
  constructor
  intro pins s σ H Q I h
  refine Call_ (ld_blt I hg hm boot_len (callWith_builtin1 (args_cons ?_ rfl) rfl rfl))
  refine Call_ (ld_blt I hg2 hm2 boot_set (callWith_type1 (args_cons (thn (ha.run pins s σ H _ I h) ?_) na) na rfl))
  rintro v s1 ⟨x, H1, I1, r1, l, ns, rfl, hq, hl, q1⟩
  refine args_nil ?_
  cases r1
  obtain ⟨its, r, pl, hz⟩ := I1.list hq
  have size : its.toArray.size = ns.length := by rw [List.size_toArray, ← r.length, List.length_map]
  refine call_set_list (I1.ok.hd hc) pl.isList (ns := ns) (by simpa using r.ints) (by rw [size]; unfold scanBound; omega) (fun h' tk hS hk => args_nil ?_)
  rw [size] at hS
  have le := firstMet_length_le (fun i => ns.getD i 0) ns.length
  obtain ⟨o, es, ep, t, ho, hex, hd, _, _, _, hf, hn⟩ := hS
  have I2 : Inv X pins σ H1 { s1 with heap := h', toks := tk } := I1.kept fun b o e => hk b o (Heap.lt_size e) e
  exact call_len_set ho hex hd hf (by rw [hn]; omega) ⟨.int ((firstMet (fun i => ns.getD i 0) ns.length).length : Nat), H1, I2.tok _, ⟨_, by rw [hn]⟩, q1 _ (met_iff ns)⟩
/-! ### a thing of any kind, and its kind -/
inductive AnyT (H : Hp) : V → String → Prop
  | non : AnyT H .non "NoneType"
  | bl (b : Bool) : AnyT H (.bl b) "bool"
  | int (i : Int) : AnyT H (.int i) "int"
  | str (x : Str) : AnyT H (.str x) "str"
  | lst {a : Addr} {xs : List V} (h : H a = some (.lst xs)) : AnyT H (.ref a) "list"
  | tup {a : Addr} {xs : List V} (h : H a = some (.tup xs)) : AnyT H (.ref a) "tuple"
  | dK {a : Addr} {xs : List (Key × V)} (h : H a = some (.dK xs)) : AnyT H (.ref a) "dict"
theorem AnyT.ext {H H' : Hp} (e : Ex H H') {x : V} {t : String} (h : AnyT H x t) : AnyT H' x t := by
  cases h with
  | non => exact .non
  | bl b => exact .bl b
  | int i => exact .int i
  | str x => exact .str x
  | lst h => exact .lst (e _ _ h)
  | tup h => exact .tup (e _ _ h)
  | dK h => exact .dK (e _ _ h)
theorem AnyT.ty {K : PySem.W.Frag} {H : Hp} {x : V} {t : String} (h : AnyT H x t) : TyX K H x (.type t) := by
  cases h with
  | non => exact .base .non
  | bl b => exact .base (.bl b)
  | int i => exact .base (.int i)
  | str x => exact .base (.str x)
  | lst h => exact .base (.lst h)
  | tup h => exact .base (.tup h)
  | dK h => exact .base (.dK h)
abbrev kinds7 : List String := ["NoneType", "bool", "int", "str", "list", "tuple", "dict"]
theorem AnyT.mem {H : Hp} {x : V} {t : String} (h : AnyT H x t) : t ∈ kinds7 := by
  cases h <;> decide
theorem kit7 : (kinds7.all fun t => decide (kitB t "int" = some (t == "int" || t == "bool")) && decide (kitB t "bool" = some (t == "bool")) && decide (kitB t "list" = some (t == "list")) && decide (kitB t "tuple" = some (t == "tuple")) && decide (kitB t "str" = some (t == "str")) && decide (kitB t "dict" = some (t == "dict"))) = true := by decide +kernel
theorem kit_all {t : String} (h : t ∈ kinds7) : kitB t "int" = some (t == "int" || t == "bool") ∧ kitB t "bool" = some (t == "bool") ∧ kitB t "list" = some (t == "list") ∧ kitB t "tuple" = some (t == "tuple") ∧ kitB t "str" = some (t == "str") ∧ kitB t "dict" = some (t == "dict") := by
  have z := List.all_eq_true.mp kit7 t h
  simp only [Bool.and_eq_true, decide_eq_true_eq] at z
  exact ⟨z.1.1.1.1.1, z.1.1.1.1.2, z.1.1.1.2, z.1.1.2, z.1.2, z.2⟩
/-- isinstance(x, T) of a thing of any kind -/
theorem isi_int {K : PySem.W.Frag} {H : Hp} {x : V} {t : String} {Q : VK} (h : AnyT H x t) (q : Q (.bl (t == "int" || t == "bool")) H) : rIsi K [x, .ty "int"] H Q := ⟨x, .ty "int", .type t, .type "int", _, rfl, .ty _, h.ty, kit_ty (kit_all h.mem).1, q⟩
theorem isi_bool {K : PySem.W.Frag} {H : Hp} {x : V} {t : String} {Q : VK} (h : AnyT H x t) (q : Q (.bl (t == "bool")) H) : rIsi K [x, .ty "bool"] H Q := ⟨x, .ty "bool", .type t, .type "bool", _, rfl, .ty _, h.ty, kit_ty (kit_all h.mem).2.1, q⟩
theorem isi_list {K : PySem.W.Frag} {H : Hp} {x : V} {t : String} {Q : VK} (h : AnyT H x t) (q : Q (.bl (t == "list")) H) : rIsi K [x, .ty "list"] H Q := ⟨x, .ty "list", .type t, .type "list", _, rfl, .ty _, h.ty, kit_ty (kit_all h.mem).2.2.1, q⟩
theorem isi_tuple {K : PySem.W.Frag} {H : Hp} {x : V} {t : String} {Q : VK} (h : AnyT H x t) (q : Q (.bl (t == "tuple")) H) : rIsi K [x, .ty "tuple"] H Q := ⟨x, .ty "tuple", .type t, .type "tuple", _, rfl, .ty _, h.ty, kit_ty (kit_all h.mem).2.2.2.1, q⟩
theorem isi_str {K : PySem.W.Frag} {H : Hp} {x : V} {t : String} {Q : VK} (h : AnyT H x t) (q : Q (.bl (t == "str")) H) : rIsi K [x, .ty "str"] H Q := ⟨x, .ty "str", .type t, .type "str", _, rfl, .ty _, h.ty, kit_ty (kit_all h.mem).2.2.2.2.1, q⟩
theorem isi_dict {K : PySem.W.Frag} {H : Hp} {x : V} {t : String} {Q : VK} (h : AnyT H x t) (q : Q (.bl (t == "dict")) H) : rIsi K [x, .ty "dict"] H Q := ⟨x, .ty "dict", .type t, .type "dict", _, rfl, .ty _, h.ty, kit_ty (kit_all h.mem).2.2.2.2.2, q⟩
end MyG

set_option maxHeartbeats 2000000
/-! Data that can be shown and compared, by its size. -/
namespace MyG
open PySem PySem.Spec PyProof.Rows L2 Evl
/-- k: how deep, L: how long its text is at most -/
structure Small (d : PyData) (k L : Nat) : Prop where
  sh : d.showable = true
  nd : d.hasDict = false
  dp : d.depth ≤ k
  ln : d.shown.length ≤ L
  cl : d.canLay0 = true
structure SmallAll (ds : List PyData) (k L : Nat) : Prop where
  sh : PyData.showableAll ds = true
  nd : PyData.hasDictAll ds = false
  dp : PyData.depthAll ds ≤ k
  ln : ((PyData.shownAll ds).map (·.length)).sum ≤ ds.length * L
  ll : (PyData.shownAll ds).length = ds.length
  cl : PyData.canLayAll0 ds = true
theorem Small.all {k L : Nat} : ∀ {ds : List PyData}, (∀ d ∈ ds, Small d k L) → SmallAll ds k L
  | [], _ => ⟨rfl, rfl, Nat.zero_le _, Nat.zero_le _, rfl, rfl⟩
  | d :: ds, h => by
    have h1 := h d (List.mem_cons_self ..)
    have h2 := Small.all fun e he => h e (List.mem_cons_of_mem d he)
    refine ⟨?_, ?_, ?_, ?_, ?_, ?_⟩
    · simp only [PyData.showableAll, h1.sh, h2.sh, Bool.and_self]
    · simp only [PyData.hasDictAll, h1.nd, h2.nd, Bool.or_self]
    · simp only [PyData.depthAll]; exact Nat.max_le.mpr ⟨h1.dp, h2.dp⟩
    · have a := h1.ln
      have b := h2.ln
      simp only [PyData.shownAll, List.map_cons, List.sum_cons, List.length_cons]
      rw [Nat.add_mul, Nat.one_mul]
      omega
    · simp only [PyData.shownAll, List.length_cons, h2.ll]
    · simp only [PyData.canLayAll0, h1.cl, h2.cl, Bool.and_self]
theorem small_list {k L : Nat} {ds : List PyData} (h : ∀ d ∈ ds, Small d k L) : Small (.list ds) (k + 1) (ds.length * (L + 2) + 3) := by
  have a := Small.all h
  refine ⟨by simpa only [PyData.showable] using a.sh, by simpa only [PyData.hasDict] using a.nd, by simp only [PyData.depth]; have := a.dp; omega, ?_, by simpa only [PyData.canLay0] using a.cl⟩
  simp only [PyData.shown]
  have b := listText_len_le (PyData.shownAll ds)
  have c := a.ln
  rw [a.ll] at b
  rw [Nat.mul_add]
  omega
theorem small_tuple {k L : Nat} {ds : List PyData} (h : ∀ d ∈ ds, Small d k L) : Small (.tuple ds) (k + 1) (ds.length * (L + 2) + 3) := by
  have a := Small.all h
  refine ⟨by simpa only [PyData.showable] using a.sh, by simpa only [PyData.hasDict] using a.nd, by simp only [PyData.depth]; have := a.dp; omega, ?_, by simpa only [PyData.canLay0] using a.cl⟩
  simp only [PyData.shown]
  have b := tupleText_len_le (PyData.shownAll ds)
  have c := a.ln
  rw [a.ll] at b
  rw [Nat.mul_add]
  omega
theorem Small.mono {d : PyData} {k L k' L' : Nat} (h : Small d k L) (hk : k ≤ k') (hL : L ≤ L') : Small d k' L' := ⟨h.sh, h.nd, Nat.le_trans h.dp hk, Nat.le_trans h.ln hL, h.cl⟩
theorem Small.shaped {d : PyData} {k L : Nat} (h : Small d k L) (hk : k ≤ 64) : SeqAt.shaped d = true := by
  unfold SeqAt.shaped
  rw [h.cl, decide_eq_true (Nat.le_trans h.dp hk)]
  rfl
theorem small_int {i : Int} (h : i.natAbs < 10 ^ 9) : Small (.int i) 0 10 := by
  have h9 : i.natAbs < 2 ^ 1920 := Nat.lt_of_lt_of_le h (by decide +kernel)
  refine ⟨?_, rfl, Nat.le_refl _, ?_, rfl⟩
  · simp only [PyData.showable]
    refine decide_eq_true ?_
    by_cases z : i.natAbs = 0
    · rw [z]; decide
    · exact (Nat.log2_lt z).mpr h9
  · simp only [PyData.shown]
    have := int_text_length_le10 (a := i) (k := 9) (by decide) h
    rw [PySem.ofString_length]
    exact this
/-! ### data in a heap -/
theorem dp_ints {K : PySem.W.Frag} {H : Hp} : ∀ ns : List Int, DpAll K H (ns.map V.int) (ns.map PyData.int)
  | [] => .nil
  | n :: ns => .cons (.int n) (dp_ints ns)
mutual
theorem Dp.ext {K : PySem.W.Frag} {H H' : Hp} (e : Ex H H') : ∀ {v : V} {d : PyData}, Dp K H v d → Dp K H' v d
  | _, _, .non => .non
  | _, _, .bl b => .bl b
  | _, _, .int i => .int i
  | _, _, .str x => .str x
  | _, _, .lst h a => .lst (ex_l e h) (DpAll.ext e a)
  | _, _, .tup h a => .tup (ex_t e h) (DpAll.ext e a)
theorem DpAll.ext {K : PySem.W.Frag} {H H' : Hp} (e : Ex H H') : ∀ {vs : List V} {ds : List PyData}, DpAll K H vs ds → DpAll K H' vs ds
  | _, _, .nil => .nil
  | _, _, .cons h a => .cons (Dp.ext e h) (DpAll.ext e a)
end
theorem eqvAll_ints_nil {ns : List Int} : PyData.eqvAll (ns.map PyData.int) [] = ns.isEmpty := by
  cases ns with
  | nil => rfl
  | cons x r => rfl
theorem repr_ok {K : PySem.W.Frag} {x : V} {d : PyData} {H : Hp} {Q : VK} {k L : Nat} (h : Dp K H x d) (s : Small d k L) (hk : k ≤ 40) (hL : L ≤ 16000000) (q : Q (.str d.shown) H) : rReprD K [x] H Q :=
  ⟨x, d, rfl, h, s.sh, s.nd, Nat.le_trans s.dp hk, Nat.le_trans (Nat.le_trans s.ln hL) (by rw [sizeLine_eq]; decide), q⟩
end MyG

/-! ### one layer of a reading opened -/
namespace MyG
open PySem PySem.Spec PyProof.Rows L2 Evl
section
variable {σ : L2.St} {H : Hp} {Q : VK} {ta tb : TE} {t : TT} {tt tu : TS} {D : Ends} {g : TG} {as tr : TA}
theorem un_and (h : ta σ H fun x H1 => ∃ c, x = .bl c ∧ if c = true then tb σ H1 Q else Q (.bl false) H1) : tAndV ta tb σ H Q := h
theorem un_or (h : ta σ H fun x H1 => ∃ c, x = .bl c ∧ if c = true then Q (.bl true) H1 else tb σ H1 Q) : tOrV ta tb σ H Q := h
theorem un_cb {r : List V → Hp → VK → Prop} (h : as σ H fun vs H1 => r vs H1 Q) : tCB r as σ H Q := h
theorem un_call {sp : Sp} {dvs : List V} {E : XK} (h : as σ H fun vs H1 => sp (vs ++ dvs) H1 Q E) : tCall sp dvs E as σ H Q := h
theorem un_cons {R : List V → Hp → Prop} (h : ta σ H fun x H1 => tr σ H1 fun xs H2 => R (x :: xs) H2) : tCons ta tr σ H R := h
theorem un_op {r : R2} (h : ta σ H fun x H1 => tb σ H1 fun y H2 => r x y H2 Q) : tOp r ta tb σ H Q := h
theorem un_test {R : Bool → Hp → Prop} (h : ta σ H fun x H' => ∃ k, x = .bl k ∧ R k H') : tTest ta σ H R := h
theorem un_lst (h : as σ H fun xs H1 => xs.length ≤ sizeLine ∧ ∀ p, H1 p = none → Q (.ref p) (upd H1 p (.lst xs))) : tLst as σ H Q := h
theorem un_ret (h : ta σ H D.rt) : tRet ta D σ H := h
theorem un_asg (h : ta σ H fun x H1 => g x σ H1 D.nx) : tAsg ta g D σ H := h
theorem un_seq (h : tt { D with nx := tu D } σ H) : tSeq tt tu D σ H := h
theorem un_if (h : t σ H fun b H1 => if b = true then tt D σ H1 else tu D σ H1) : tIfS t tt tu D σ H := h
end
end MyG
namespace MyG
open PySem PySem.Spec PyProof.Rows L2 Evl
section
variable {σ : L2.St} {H : Hp} {ta : TE} {t : TT} {R : Bool → Hp → Prop}
theorem un_not (h : t σ H fun c H1 => R (!c) H1) : tNot t σ H R := h
theorem un_tB (h : ta σ H fun x H1 => ∃ c, x = .bl c ∧ R c H1) : tB ta σ H R := h
theorem un_c {v : V} {Q : VK} (h : Q v H) : tC v σ H Q := h
theorem un_next {D : Ends} (h : D.nx σ H) : tNext D σ H := h
theorem un_yes (h : R true H) : tYes σ H R := h
end
end MyG

/-! ### the layer's rules with the written part named (for the blocks of comprehensions) -/
namespace MyG
open PySem PySem.Spec PyProof.Rows L2 Evl
section
variable {X : Cx} {K : PySem.W.Frag}
def rLenQ (K : PySem.W.Frag) : List V → Hp → VK → Prop := fun xs H Q => ∃ p ys, xs = [.ref p] ∧ (SqL K H p ys ∨ SqT K H p ys) ∧ Q (.int ys.length) H
def rListQ (K : PySem.W.Frag) : List V → Hp → VK → Prop := fun xs H Q => ∃ p ys, xs = [.ref p] ∧ (SqL K H p ys ∨ SqT K H p ys) ∧ ∀ l, H l = none → Q (.ref l) (upd H l (.lst ys))
theorem ix_listK (h : X.K = K) : IxR X (rIxL K) := by subst h; exact ix_list
theorem ix_tupK (h : X.K = K) : IxR X (rIxT K) := by subst h; exact ix_tup
theorem op_inK (h : X.K = K) : OpR X (compareOp .In) (rIn K false) := by subst h; exact op_in_seq
theorem op_niK (h : X.K = K) : OpR X (compareOp .NotIn) (rIn K true) := by subst h; exact op_notIn_seq
theorem op_eqK (h : X.K = K) (hu : X.A.units + 64 < cLine) : OpR X (compareOp .Eq) (rEqD K) := by subst h; exact op_eqD hu
theorem op_neK (h : X.K = K) (hu : X.A.units + 64 < cLine) : OpR X (compareOp .NotEq) (rNeD K) := by subst h; exact op_neD hu
theorem sl_listK (h : X.K = K) : SlR X (rSlL K) := by subst h; exact sl_list
theorem sl_tupK (h : X.K = K) : SlR X (rSlT K) := by subst h; exact sl_tup
theorem catTK (h : X.K = K) : OpR X (binaryOp .Add) (rCatT K) := by subst h; exact op_catT
theorem lenK (h : X.K = K) : CallR X (.builtin "len") (rLenQ K) := by subst h; exact call_len_seq
theorem listK (h : X.K = K) : CallR X (.type "list") (rListQ K) := by subst h; exact call_list_of
theorem sumK (h : X.K = K) (hc : X.calm = true) : CallR X (.builtin "sum") (rSum K) := by subst h; exact cr_sum hc
theorem allK (h : X.K = K) (hc : X.calm = true) : CallR X (.builtin "all") (rAll K) := by subst h; exact cr_all hc
theorem sortedK (h : X.K = K) : CallR X (.builtin "sorted") (rSorted K) := by subst h; exact cr_sorted
theorem isiK (h : X.K = K) : CallR X (.builtin "isinstance") (rIsi K) := by subst h; exact call_isi
theorem reprK {k : Nat} (h : X.K = K) (hgd : X.A.guards = some []) (room : Room k X.A) : CallR X (.builtin "repr") (rReprD K) := by subst h; exact call_reprD hgd room
theorem fldK {e : Expr} {ta : TE} {f : Str} {pos : Pos} (h : X.K = K) (he : PE X e ta) (hb : attributeBase e f X.env (eval e X.env) = eval e X.env) : PE X (.Attribute e f pos) (tFld K ta f) := by subst h; exact pe_fld he hb
theorem iListK {tg l : Expr} {tl : TE} (h : X.K = K) (hl : PE X l tl) : PI X tg l (iList K tl) := by subst h; exact pi_list hl
theorem iTupK {tg l : Expr} {tl : TE} (h : X.K = K) (hl : PE X l tl) : PI X tg l (iTup K tl) := by subst h; exact pi_tup hl
theorem lenSetK {a : Expr} {ta : TE} {p p2 q pos : Pos} (h : X.K = K) (hg : Gl X "len") (hm : X.mg "len" = none) (hg2 : Gl X "set") (hm2 : X.mg "set" = none) (ha : PE X a ta) (hc : X.calm = true := by rfl)
    (na : starEach [a] X.env = (false, eval a X.env) :: starEach [] X.env := by rfl) : PE X (.Call (.Name "len" p) [.Call (.Name "set" p2) [a] [] q] [] pos) (tLenSetG K ta) := by subst h; exact pe_lenSetG hg hm hg2 hm2 ha hc na
end
end MyG

set_option maxHeartbeats 2000000
/-! == and != where an instance with an own __eq__ stands on one side. -/
namespace MyG
open PySem PySem.Spec PyProof.Rows
section
variable {prog : Program} {w : World} {A : Around} {E : Value → Shared → Prop} {h : Heap} {g : Array GenState} {d : Drawn} {t : Nat} {os : OsState} {x C dx : Addr} {Q : Value → Shared → Prop}
/-- what the built-in == says of an instance on its right: it declines -/
def Declines (prog : Program) (w : World) (A : Around) (h : Heap) (id : String) (u : Value) (x : Addr) : Prop :=
  ∀ (E : Value → Shared → Prop) (Q : Value → Shared → Prop) (g : Array GenState) (d : Drawn) (t : Nat) (os : OsState), (∀ tk, Q .notImplemented ⟨h, g, d, tk, os⟩) → wpAny (model prog w) A (call (.builtin id) [u, .ref x]) Q E ⟨h, g, d, t, os⟩
theorem dec_none : Declines prog w A h "NoneType.__eq__" .none x := by
  intro E Q g d t os q
  refine wpAny_call_entry F.slot_NoneType_eq (typeIs_none _) F.entry_NoneType_eq ?_ (F.args_NoneType_eq_2 _ _)
  unfold Builtin.«NoneType.__eq__»
  repeat wp_step
  all_goals exact ⟨_, rfl, q _⟩
theorem dec_int {i : Int} {tk : Tok} (hx : h.get? x = some (PySem.W.instObj C dx)) : Declines prog w A h "int.__eq__" (.int i tk) x := by
  intro E Q g d t os q
  refine wpAny_call_entry F.slot_int_eq (typeIs_int _ _ _) F.entry_int_eq ?_ (F.args_int_eq_2 _ _)
  unfold Builtin.«int.__eq__»
  repeat wp_step
  all_goals exact ⟨_, rfl, q _⟩
theorem dec_bool {b : Bool} (hx : h.get? x = some (PySem.W.instObj C dx)) : Declines prog w A h "int.__eq__" (.bool b) x := by
  intro E Q g d t os q
  refine wpAny_call_entry F.slot_bool_eq (PySem.typeIs_bool _ _) F.entry_int_eq ?_ (F.args_int_eq_2 _ _)
  unfold Builtin.«int.__eq__»
  repeat wp_step
  all_goals exact ⟨_, rfl, q _⟩
theorem dec_str {y : Str} {tk : Tok} (hx : h.get? x = some (PySem.W.instObj C dx)) : Declines prog w A h "str.__eq__" (.str y tk) x := by
  intro E Q g d t os q
  refine wpAny_call_entry F.slot_str_eq (typeIs_str _ _ _) F.entry_str_eq ?_ (F.args_str_eq_2 _ _)
  unfold Builtin.«str.__eq__» Builtin.Str.strCompare
  repeat wp_step
  all_goals exact ⟨_, rfl, q _⟩
theorem inst_not {T : String} (hx : h.get? x = some (PySem.W.instObj C dx)) (hs : PySem.W.Looks (model prog w) h (isSubtype (.ref C) (.type T)) false) {A : Around} {E : Value → Shared → Prop} {Q : Bool → Shared → Prop} (q : Q false ⟨h, g, d, t, os⟩) :
    wpAny (model prog w) A (isInstance (.ref x) (.type T)) Q E ⟨h, g, d, t, os⟩ := by
  unfold isInstance
  exact wpAny_bind (wpAny_typeOf_ref hx (hs.at q))
theorem dec_list {l : Addr} {o : Obj} (hl : h.get? l = some o) (hlc : o.cls = .type "list") (hx : h.get? x = some (PySem.W.instObj C dx)) (hs : PySem.W.Looks (model prog w) h (isSubtype (.ref C) (.type "list")) false) : Declines prog w A h "list.__eq__" (.ref l) x := by
  intro E Q g d t os q
  refine wpAny_call_entry F.slot_list_eq ⟨_, hl, hlc⟩ F.entry_list_eq ?_ (F.args_list_eq_2 _ _)
  unfold Builtin.«list.__eq__»
  repeat (first | (refine wpAny_bind (m := isInstance (.ref x) (.type "list")) (inst_not hx hs ?_)) | wp_step)
  all_goals exact ⟨_, rfl, q _⟩
theorem dec_tuple {l : Addr} {o : Obj} (hl : h.get? l = some o) (hlc : o.cls = .type "tuple") (hx : h.get? x = some (PySem.W.instObj C dx)) (hs : PySem.W.Looks (model prog w) h (isSubtype (.ref C) (.type "tuple")) false) : Declines prog w A h "tuple.__eq__" (.ref l) x := by
  intro E Q g d t os q
  refine wpAny_call_entry F.slot_tuple_eq ⟨_, hl, hlc⟩ F.entry_tuple_eq ?_ (F.args_tuple_eq_2 _ _)
  unfold Builtin.«tuple.__eq__»
  repeat (first | (refine wpAny_bind (m := isInstance (.ref x) (.type "tuple")) (inst_not hx hs ?_)) | wp_step)
  all_goals exact ⟨_, rfl, q _⟩
theorem dec_dict {l : Addr} {o : Obj} (hl : h.get? l = some o) (hlc : o.cls = .type "dict") (hx : h.get? x = some (PySem.W.instObj C dx)) (hs : PySem.W.Looks (model prog w) h (isSubtype (.ref C) (.type "dict")) false) : Declines prog w A h "dict.__eq__" (.ref l) x := by
  intro E Q g d t os q
  refine wpAny_call_entry F.slot_dict_eq ⟨_, hl, hlc⟩ F.entry_dict_eq ?_ (F.args_dict_eq_2 _ _)
  unfold Builtin.«dict.__eq__»
  repeat (first | (refine wpAny_bind (m := isInstance (.ref x) (.type "dict")) (inst_not hx hs ?_)) | wp_step)
  all_goals exact ⟨_, rfl, q _⟩
/-- u == x, u of a built-in type whose == declines, x an instance: the other way about, by its own -/
theorem rc_right {u : Value} {T id : String} {K : PySem.W.Frag} {f : Addr} (hT : ∀ s : Shared, s.heap = h → s.TypeIs u T) (hs1 : Slot T (cmpInfo .Eq).2.1 id) (dec : Declines prog w A h id u x) (KX : K.In h) (hx : h.get? x = some (PySem.W.instObj C dx))
    (hs : PySem.W.Looks (model prog w) h (isSubtype (.ref C) (.type T)) false) (he : PySem.W.findIn K (.ref C) "__eq__" = some (some (.ref f))) (hf : PySem.W.isFn K (.ref f) = true) (hu : A.units < cLine)
    (I : PySem.W.InstAt h x (PySem.W.instObj C dx) C none ∨ ∃ od, PySem.W.InstAt h x (PySem.W.instObj C dx) C (some od))
    (hcall : ∀ tk, wpAny (model prog w) A (call (.ref f) [.ref x, u]) (fun v s' => ∃ b, v = .bool b ∧ Q v s') E ⟨h, g, d, tk, os⟩) :
    wpAny (model prog w) A (richCompare .Eq u (.ref x)) Q E ⟨h, g, d, t, os⟩ := by
  obtain ⟨od, I⟩ : ∃ od, PySem.W.InstAt h x (PySem.W.instObj C dx) C od := by
    rcases I with I | ⟨od, I⟩
    · exact ⟨_, I⟩
    · exact ⟨_, I⟩
  unfold richCompare
  rw [(hT ⟨h, g, d, t, os⟩ rfl).oneThing_none]
  refine wpAny_holding (wpAny_bind (wpAny_cRoomFor hu ?_))
  rw [cmpInfo_Eq]
  dsimp only
  refine wpAny_bind (wpAny_typeOf (hT _ rfl) (wpAny_bind (wpAny_typeOf_ref hx ?_)))
  rw [show (Value.type T != (PySem.W.instObj C dx).cls) = true from rfl, if_pos rfl]
  refine wpAny_bind (hs.at ?_)
  simp only [Bool.false_eq_true, if_false, Bool.not_false, if_true]
  refine wpAny_bind (m := tryCompare u _ (.ref x)) (wpAny_tryCompare_declines (hT _ rfl) hs1 (dec _ _ _ _ _ _ fun tk => ⟨rfl, ?_⟩))
  refine wpAny_bind (m := tryCompare (.ref x) _ u) ?_
  unfold tryCompare
  refine wpAny_bind (PySem.W.ifBound_K (KX) I he hf (wpAny_mono (hcall tk) (fun v s' hv => ?_) fun _ _ e => e))
  obtain ⟨b, rfl, hq⟩ := hv
  exact wpAny_pure (wpAny_pure hq)
/-- x != b by the built-in !=, which asks the own == -/
theorem ne_own {b tb : Value} {K : PySem.W.Frag} {f : Addr} {od : Option Obj} (KX : K.In h) (I : PySem.W.InstAt h x (PySem.W.instObj C dx) C od) (hb : PySem.W.Looks (model prog w) h (typeOf b) tb) (hn : PySem.W.notFirst K C tb = true)
    (he : PySem.W.findIn K (.ref C) "__eq__" = some (some (.ref f))) (hf : PySem.W.isFn K (.ref f) = true) (hne : PySem.W.findIn K (.ref C) "__ne__" = some (some (.builtin "object.__ne__"))) (hob : PySem.W.subIn K (.ref C) (.type "object") = some true) (hu : A.units + 1 < cLine)
    (hcall : ∀ tk, wpAny (model prog w) A.in1 (call (.ref f) [.ref x, b]) (fun v s' => ∃ k, v = .bool k ∧ Q (.bool (!k)) s') E ⟨h, g, d, tk, os⟩) :
    wpAny (model prog w) A (richCompare .NotEq (.ref x) b) Q E ⟨h, g, d, t, os⟩ := by
  have hx := I.at_
  -- the built-in's own body
  have body : ∀ tk, wpAny (model prog w) A.in1 (Builtin.«object.__ne__» ⟨[.ref x, b], []⟩) (fun fin s' => ∃ k, fin = .done (.ret (.bool k)) ∧ Q (.bool k) s') E ⟨h, g, d, tk, os⟩ := by
    intro tk
    unfold Builtin.«object.__ne__»
    repeat (first
      | with_reducible refine wpAny_cRoomFor hu ?_
      | (refine wpAny_bind (m := callSpecialIfBound? (.ref x) (Str.ofString "__eq__") [b]) (PySem.W.ifBound_K KX I he hf (wpAny_mono (hcall _) (fun r s' hr => by
            obtain ⟨k, rfl, hq⟩ := hr
            repeat (first | exact ⟨_, rfl, hq⟩ | (refine wpAny_bind (m := truthy (.bool _)) (wpAny_truthy_bool ?_)) | wp_step)) fun _ _ e => e)))
      | wp_step)
  have chk : ∀ tk {Q' : Unit → Shared → Prop} {E' : Value → Shared → Prop}, Q' () ⟨h, g, d, tk, os⟩ → wpAny (model prog w) A.in1 (checkBuiltinCall "object.__ne__" ⟨[.ref x, b], []⟩) Q' E' ⟨h, g, d, tk, os⟩ := by
    intro tk Q' E' hq
    simp only [checkBuiltinCall, F.cmpKind_ne, F.cmpSplit_ne]
    refine wpAny_bind ?_
    · unfold isInstance
      repeat (first | (with_reducible refine wpAny_loadPart_at hx ?_) | wp_step)
      refine (PySem.W.looks_subIn KX hob).at ?_
      simp only [Bool.not_true, Bool.false_eq_true, if_false]
      have ha := F.cmpArgs_ne (.ref x) b
      cases hsig : Manifest.signature? "object.__ne__" with
      | none => exact wpAny_pure hq
      | some sig =>
        simp only [argsOk, hsig] at ha
        have h2 : Bind.checkArgs "object.__ne__" sig ⟨[.ref x, b], []⟩ = pure () := ha
        show wpAny _ _ (Bind.checkArgs "object.__ne__" sig ⟨[.ref x, b], []⟩) Q' E' _
        rw [h2]
        exact wpAny_pure hq
  have one : ∀ tk, wpAny (model prog w) A (tryCompare (.ref x) "__ne__" b) (fun r s' => ∃ k, r = some (.bool k) ∧ Q (.bool k) s') E ⟨h, g, d, tk, os⟩ := by
    intro tk
    unfold tryCompare
    have inner : ∀ tk, wpAny (model prog w) A (call (.builtin "object.__ne__") [.ref x, b]) (fun v s' => ∃ k, v = .bool k ∧ Q (.bool k) s') E ⟨h, g, d, tk, os⟩ := by
      intro tk
      refine wpAny_call (codeAny_call_builtin F.slot_range_iterator_ne.plain F.cmpEntry_ne (chk tk ?_))
      refine wpAny_mono (body tk) (fun fin s' hf => ?_) fun _ _ e => e
      obtain ⟨k, rfl, hq⟩ := hf
      exact ⟨k, rfl, hq⟩
    refine wpAny_bind (m := callSpecialIfBound? (.ref x) "__ne__" [b]) ?_
    simp only [callSpecialIfBound?, bindSpecialIfBound?]
    refine wpAny_holding (wpAny_bind (wpAny_bind (wpAny_bind (I.type.at ((PySem.W.looks_findIn KX hne).at ?_)))))
    simp only [F.slot_range_iterator_ne.bind]
    refine wpAny_bind (wpAny_askSetting (wpAny_ite ?_))
    have fin : ∀ tk, wpAny (model prog w) A (call (.builtin "object.__ne__") ([.ref x] ++ [b]) >>= fun v => pure (some v)) (fun a s' => wpAny (model prog w) A (match a with
        | some .notImplemented | none => pure none
        | some v => pure (some v)) (fun r s' => ∃ k, r = some (.bool k) ∧ Q (.bool k) s') E s') E ⟨h, g, d, tk, os⟩ := fun tk =>
      wpAny_bind (wpAny_mono (inner tk) (fun v s' hv => by
        obtain ⟨k, rfl, hq⟩ := hv
        exact wpAny_pure (wpAny_pure ⟨k, rfl, hq⟩)) fun _ _ e => e)
    split
    · exact wpAny_bind (wpAny_pure (wpAny_pure (fin _)))
    · exact wpAny_tryCatch (wpAny_bind (wpAny_pure (wpAny_pure (fin _))))
  unfold richCompare
  simp only [oneThing_ref]
  refine wpAny_holding (wpAny_bind (wpAny_cRoomFor (Nat.lt_of_succ_lt hu) ?_))
  rw [cmpInfo_NotEq]
  dsimp only
  refine wpAny_bind (I.type.at (wpAny_bind (hb.at ?_)))
  by_cases q : (Value.ref C != tb) = true
  · rw [if_pos q]
    have e : PySem.W.subIn K tb (.ref C) = some false := by
      rcases Bool.or_eq_true_iff.mp hn with e | e
      · rw [beq_iff_eq.mp e] at q
        simp at q
      · exact beq_iff_eq.mp e
    refine wpAny_bind ((PySem.W.looks_subIn KX e).at ?_)
    simp only [Bool.false_eq_true, if_false]
    refine wpAny_bind (wpAny_mono (one _) (fun r s' hr => ?_) fun _ _ e => e)
    obtain ⟨k, rfl, hq⟩ := hr
    exact wpAny_pure hq
  · rw [if_neg q]
    refine wpAny_bind (wpAny_pure ?_)
    simp only [Bool.false_eq_true, if_false]
    refine wpAny_bind (wpAny_mono (one _) (fun r s' hr => ?_) fun _ _ e => e)
    obtain ⟨k, rfl, hq⟩ := hr
    exact wpAny_pure hq
end
end MyG

/-! ### the same over the layer -/
namespace MyG
open PySem PySem.Spec PyProof.Rows L2 Evl
/-- what is written of a class with an own __eq__ (f) and no own __ne__ -/
structure EqC (K : PySem.W.Frag) (C f : Addr) : Prop where
  he : PySem.W.findIn K (.ref C) "__eq__" = some (some (.ref f))
  hf : PySem.W.isFn K (.ref f) = true
  ne : PySem.W.findIn K (.ref C) "__ne__" = some (some (.builtin "object.__ne__"))
  ob : PySem.W.subIn K (.ref C) (.type "object") = some true
  no : ∀ T ∈ kinds7, PySem.W.subIn K (.ref C) (.type T) = some false
/-- an instance of the class at C, or a thing of a built-in kind -/
def AnyI (C : Addr) (H : Hp) (y : V) : Prop := (∃ t, AnyT H y t) ∨ ∃ b dy gs, y = .ref b ∧ H b = some (.ins C dy gs)
theorem mro7 : (kinds7.all fun t => match fastBuiltinMro t with
  | some l => l.all fun v => match v with
    | .ref _ => false
    | _ => true
  | none => false) = true := by decide +kernel
theorem first7 {K : PySem.W.Frag} {C : Addr} {t : String} (h : t ∈ kinds7) : PySem.W.notFirst K C (.type t) = true := by
  have z := List.all_eq_true.mp mro7 t h
  unfold PySem.W.notFirst
  rw [Bool.or_eq_true]
  right
  show (((fastBuiltinMro t).map (·.contains (.ref C))) == some false) = true
  cases e : fastBuiltinMro t with
  | none => rw [e] at z; cases z
  | some l =>
    rw [e] at z
    have z' : ∀ v ∈ l, (match v with | .ref _ => false | _ => true) = true := List.all_eq_true.mp z
    have n : l.contains (.ref C) = false := by
      cases c : l.contains (.ref C) with
      | false => rfl
      | true =>
        have m := List.contains_iff_mem.mp c
        exact absurd (z' _ m) Bool.false_ne_true
    simp only [Option.map_some, n]
    rfl
section
variable {X : Cx} {pins : List (Addr × Obj)} {σ : L2.St} {H : Hp} {s : Shared} {C f : Addr} {fd : FuncData} {ps : List Str} {n : Nat} {sp : Sp} {CX : CXT} {E : XK}
theorem any_type {y : V} {v : Value} {t : String} (I : Inv X pins σ H s) (r : RelV y v) (a : AnyT H y t) : ∀ s' : Shared, s'.heap = s.heap → s'.TypeIs v t := by
  intro s' hs
  cases a with
  | non => cases (show v = Value.none from r); exact typeIs_none _
  | bl b => cases (show v = Value.bool b from r); exact PySem.typeIs_bool _ _
  | int i => obtain ⟨k, rfl⟩ := (show ∃ k, v = Value.int i k from r); exact typeIs_int _ _ _
  | str x => obtain ⟨k, rfl⟩ := (show ∃ k, v = Value.str x k from r); exact typeIs_str _ _ _
  | @lst a xs h =>
    cases (show v = Value.ref a from r)
    obtain ⟨_, _, k, _, e⟩ := I.hok a _ h
    exact ⟨_, by rw [hs]; exact e, rfl⟩
  | @tup a xs h =>
    cases (show v = Value.ref a from r)
    obtain ⟨_, _, _, o, e, e2, _⟩ := I.hok a _ h
    exact ⟨o, by rw [hs]; exact e, e2⟩
  | @dK a xs h =>
    cases (show v = Value.ref a from r)
    obtain ⟨_, _, _, _, o, _, _, e, e2, _⟩ := I.hok a _ h
    exact ⟨o, by rw [hs]; exact e, e2.1⟩
theorem any_looks {y : V} {v : Value} {M : Model} {t : String} (I : Inv X pins σ H s) (r : RelV y v) (a : AnyT H y t) : PySem.W.Looks M s.heap (typeOf v) (.type t) := by
  intro A Q E s' k q
  have J : s'.TypeIs v t := by
    cases a with
    | non => cases (show v = Value.none from r); exact typeIs_none _
    | bl b => cases (show v = Value.bool b from r); exact PySem.typeIs_bool _ _
    | int i => obtain ⟨k, rfl⟩ := (show ∃ k, v = Value.int i k from r); exact typeIs_int _ _ _
    | str x => obtain ⟨k, rfl⟩ := (show ∃ k, v = Value.str x k from r); exact typeIs_str _ _ _
    | @lst a xs h =>
      cases (show v = Value.ref a from r)
      obtain ⟨_, _, n, _, e⟩ := I.hok a _ h
      exact ⟨_, k _ _ e, rfl⟩
    | @tup a xs h =>
      cases (show v = Value.ref a from r)
      obtain ⟨_, _, _, o, e, e2, _⟩ := I.hok a _ h
      exact ⟨o, k _ _ e, e2⟩
    | @dK a xs h =>
      cases (show v = Value.ref a from r)
      obtain ⟨_, _, _, _, o, _, _, e, e2, _⟩ := I.hok a _ h
      exact ⟨o, k _ _ e, e2.1⟩
  exact wpAny_typeOf J q
def rEqL (C : Addr) (sp : Sp) (E : XK) : R2 := fun x y H Q => ∃ a dx fs, x = .ref a ∧ H a = some (.ins C dx fs) ∧ AnyI C H y ∧ sp [.ref a, y] H (fun v H' => ∃ k, v = .bl k ∧ Q (.bl k) H') E
def rNeL (C : Addr) (sp : Sp) (E : XK) : R2 := fun x y H Q => ∃ a dx fs, x = .ref a ∧ H a = some (.ins C dx fs) ∧ AnyI C H y ∧ sp [.ref a, y] H (fun v H' => ∃ k, v = .bl k ∧ Q (.bl (!k)) H') E
def rEqR (C : Addr) (sp : Sp) (E : XK) : R2 := fun y x H Q => ∃ a dx fs t, x = .ref a ∧ H a = some (.ins C dx fs) ∧ AnyT H y t ∧ sp [.ref a, y] H (fun v H' => ∃ k, v = .bl k ∧ Q (.bl k) H') E
/-- the own __eq__, called wherever there is room -/
theorem run_eq {A : Around} {v : Value} {y : V} {a : Addr} {Q : VK} (F : FnOk X.prog X.w X.K X.mg X.base CX n f fd ps sp) (room : Room n A) (fr : A.frames = X.A.frames) (hb : Binds X.K fd ps []) (hx : Passes CX X E) (I : Inv X pins σ H s) (r : RelV y v) (h : sp [.ref a, y] H Q E) :
    wpAny (model X.prog X.w) A (call (.ref f) [.ref a, v]) (EP X pins σ Q) X.xe s := by
  have e0 : Env0 X.prog X.w X.K X.mg X.base A X.stack s H := { I.env0 with frames := by rw [fr]; exact I.env0.frames }
  have rel : Vals [V.ref a, y] [Value.ref a, v] := .cons rfl (.cons r .nil)
  have hl : [Value.ref a, v].length = ps.length := rel.length.symm.trans (F.len _ _ _ _ h)
  have b := hb s [Value.ref a, v] I.kIn (by rw [List.append_nil]; exact hl)
  rw [List.append_nil] at b
  refine wpAny_call (codeAny_mono (F.run A X.stack s H ⟨[.ref a, v], []⟩ [.ref a, v] [.ref a, y] Q E room e0 b rel h) (fun r s' hq => ?_))
  match r, hq with
  | .error e, hq => exact hx pins σ H s e s' I hq
  | .ok (.ret u), hq => exact I.after hq
theorem op_eqL (c : EqC X.K C f) (F : FnOk X.prog X.w X.K X.mg X.base CX n f fd ps sp) (room : Room n X.A) (hb : Binds X.K fd ps []) (hx : Passes CX X E) : OpR X (compareOp .Eq) (rEqL C sp E) := by
  intro pins s σ H x y v u Q I rx ry h
  obtain ⟨a, dx, fs, rfl, ha, hy, hs⟩ := h
  cases rx
  obtain ⟨mA, J, _⟩ := ins_get I.hok ha
  obtain ⟨od, J, _⟩ := J.look
  obtain ⟨m, hF⟩ := I.fr
  show wpAny (model X.prog X.w) X.A (richCompare .Eq (.ref a) u) (EP X pins σ Q) X.xe s
  have go : wpAny (model X.prog X.w) X.A (call (.ref f) [.ref a, u]) (PySem.W.CmpBack (EP X pins σ Q)) X.xe s := by
    refine wpAny_mono (run_eq F room rfl hb hx I ry hs) (fun w s' hw => ?_) fun _ _ e => e
    obtain ⟨z, H', I', rz, k, rfl, hq⟩ := hw
    cases rz
    exact ⟨.bl k, H', I', rfl, hq⟩
  rcases hy with ⟨t, ht⟩ | ⟨b, dy, gs, rfl, hb'⟩
  · exact PySem.W.cmp_K (op := .Eq) (tb := .type t) room.units0 hF I.ok.mod.kin J (any_looks I ry ht) (first7 ht.mem) c.he c.hf go
  · cases ry
    obtain ⟨mB, J', _⟩ := ins_get I.hok hb'
    obtain ⟨od', J', _⟩ := J'.look
    exact PySem.W.cmp_K (op := .Eq) (tb := .ref C) room.units0 hF I.ok.mod.kin J J'.type (by simp [PySem.W.notFirst]) c.he c.hf go
theorem op_neL (c : EqC X.K C f) (F : FnOk X.prog X.w X.K X.mg X.base CX n f fd ps sp) (room : Room (n + 1) X.A) (hb : Binds X.K fd ps []) (hx : Passes CX X E) : OpR X (compareOp .NotEq) (rNeL C sp E) := by
  intro pins s σ H x y v u Q I rx ry h
  obtain ⟨a, dx, fs, rfl, ha, hy, hs⟩ := h
  cases rx
  obtain ⟨mA, J, _⟩ := ins_get I.hok ha
  obtain ⟨od, J, _⟩ := J.look
  show wpAny (model X.prog X.w) X.A (richCompare .NotEq (.ref a) u) (EP X pins σ Q) X.xe s
  have un := room.units
  obtain ⟨hp, g, d, tk, os⟩ := s
  have go : ∀ tk', wpAny (model X.prog X.w) X.A.in1 (call (.ref f) [.ref a, u]) (fun v s' => ∃ k, v = .bool k ∧ EP X pins σ Q (.bool (!k)) s') X.xe ⟨hp, g, d, tk', os⟩ := by
    intro tk'
    refine wpAny_mono (run_eq F room.in1 rfl hb hx (I.tok tk') ry hs) (fun w s' hw => ?_) fun _ _ e => e
    obtain ⟨z, H', I', rz, k, rfl, hq⟩ := hw
    cases rz
    exact ⟨k, rfl, .bl (!k), H', I', rfl, hq⟩
  rcases hy with ⟨t, ht⟩ | ⟨b, dy, gs, rfl, hb'⟩
  · exact ne_own (tb := .type t) I.kIn J (any_looks I ry ht) (first7 ht.mem) c.he c.hf c.ne c.ob (by omega) go
  · cases ry
    obtain ⟨mB, J', _⟩ := ins_get I.hok hb'
    obtain ⟨od', J', _⟩ := J'.look
    exact ne_own (tb := .ref C) I.kIn J J'.type (by simp [PySem.W.notFirst]) c.he c.hf c.ne c.ob (by omega) go
theorem op_eqRt (c : EqC X.K C f) (F : FnOk X.prog X.w X.K X.mg X.base CX n f fd ps sp) (room : Room n X.A) (hb : Binds X.K fd ps []) (hx : Passes CX X E) : OpR X (compareOp .Eq) (rEqR C sp E) := by
  intro pins s σ H y x u v Q I ry rx h
  obtain ⟨a, dx, fs, t, rfl, ha, ht, hs⟩ := h
  cases rx
  obtain ⟨mA, J, _⟩ := ins_get I.hok ha
  obtain ⟨od, J, _⟩ := J.look
  have un := room.units0
  have hT := any_type I ry ht
  have sub := PySem.W.looks_subIn (M := model X.prog X.w) I.kIn (c.no t ht.mem)
  show wpAny (model X.prog X.w) X.A (richCompare .Eq u (.ref a)) (EP X pins σ Q) X.xe s
  have hx' := J.at_
  have ok := I.hok
  obtain ⟨hp, g, d, tk, os⟩ := s
  have go : ∀ tk', wpAny (model X.prog X.w) X.A (call (.ref f) [.ref a, u]) (fun v s' => ∃ k, v = .bool k ∧ EP X pins σ Q v s') X.xe ⟨hp, g, d, tk', os⟩ := by
    intro tk'
    refine wpAny_mono (run_eq F room rfl hb hx (I.tok tk') ry hs) (fun w s' hw => ?_) fun _ _ e => e
    obtain ⟨z, H', I', rz, k, rfl, hq⟩ := hw
    cases rz
    exact ⟨k, rfl, .bl k, H', I', rfl, hq⟩
  have fin : ∀ {id : String}, Slot t (cmpInfo .Eq).2.1 id → Declines X.prog X.w X.A hp id u a → wpAny (model X.prog X.w) X.A (richCompare .Eq u (.ref a)) (EP X pins σ Q) X.xe ⟨hp, g, d, tk, os⟩ := fun {id} sl dec =>
    rc_right hT sl dec I.kIn hx' sub c.he c.hf un (.inr ⟨_, J⟩) go
  cases ht with
  | non => cases (show u = Value.none from ry); exact fin PySem.F.slot_NoneType_eq dec_none
  | bl b => cases (show u = Value.bool b from ry); exact fin PySem.F.slot_bool_eq (dec_bool hx')
  | int i => obtain ⟨k, rfl⟩ := (show ∃ k, u = Value.int i k from ry); exact fin PySem.F.slot_int_eq (dec_int hx')
  | str z => obtain ⟨k, rfl⟩ := (show ∃ k, u = Value.str z k from ry); exact fin PySem.F.slot_str_eq (dec_str hx')
  | @lst b xs h =>
    cases (show u = Value.ref b from ry)
    obtain ⟨_, _, k, _, e⟩ := ok b _ h
    exact fin PySem.F.slot_list_eq (dec_list e rfl hx' sub)
  | @tup b xs h =>
    cases (show u = Value.ref b from ry)
    obtain ⟨_, _, _, o, e, e2, _⟩ := ok b _ h
    exact fin PySem.F.slot_tuple_eq (dec_tuple e e2 hx' sub)
  | @dK b xs h =>
    cases (show u = Value.ref b from ry)
    obtain ⟨_, _, _, _, o, _, _, e, e2, _⟩ := ok b _ h
    exact fin PySem.F.slot_dict_eq (dec_dict e e2.1 hx' sub)
end
end MyG

set_option maxHeartbeats 2000000
/-! x in [y], both instances with an own __eq__. -/
namespace MyG
open PySem PySem.SeqAt
open AutoSeq1 (wpAny_loadPart')
open MeetsSeq MeetsSeq2 MeetsSeq3 SeqRoads2
section
variable {prog : Program} {w : World} {A : Around} {E : Value → Shared → Prop} {R : Result → Shared → Prop}
theorem end_loop {l : Addr} {items : Array Value} {x : Value} {i n : Nat} {s : Shared} (hl : s.heap.get? l = some { cls := .type "list", data := .seq items n }) (hi : items[i]? = none) (h : ∀ tk, R (.ok (.ret (.bool false))) { s with toks := tk }) :
    wpAny (model prog w) A.in1 (Builtin.«list.__contains__.loop» ⟨[.ref l, x, rawInt (i : Int)], []⟩) (GQ.FinOf prog w A R) (fun e s' => R (.error e) s') s := by
  obtain ⟨hp, g, d, tk, os⟩ := s
  wp_walk using wpAny_loadPart' hl
  have hi' : items[((i : Nat) : Int).toNat]? = none := by simpa using hi
  rw [hi']
  wp_walk
  exact h _
theorem one_loop {l : Addr} {items : Array Value} {u x : Value} {i n : Nat} {s : Shared} (hl : s.heap.get? l = some { cls := .type "list", data := .seq items n }) (hi : items[i]? = some u)
    (he : ∀ tk, wpAny (model prog w) A.in1 (eqBool u x) (fun k s' => (∃ (its : Array Value) (m : Nat), s'.heap.get? l = some { cls := .type "list", data := .seq its m } ∧ its[i + 1]? = none) ∧ ∀ tk', R (.ok (.ret (.bool k))) { s' with toks := tk' }) (fun e s' => R (.error e) s') { s with toks := tk }) :
    wpAny (model prog w) A.in1 (Builtin.«list.__contains__.loop» ⟨[.ref l, x, rawInt (i : Int)], []⟩) (GQ.FinOf prog w A R) (fun e s' => R (.error e) s') s := by
  obtain ⟨hp, g, d, tk, os⟩ := s
  wp_walk using wpAny_loadPart' hl
  have hi' : items[((i : Nat) : Int).toNat]? = some u := by simpa using hi
  rw [hi']
  refine wpAny_bind (wpAny_mono (he _) (fun k s' hk => ?_) fun _ _ e => e)
  obtain ⟨⟨its, m, hv, hn⟩, hR⟩ := hk
  cases k with
  | true =>
    obtain ⟨hp', g', d', tk', os'⟩ := s'
    wp_walk
    exact hR _
  | false =>
    obtain ⟨hp', g', d', tk', os'⟩ := s'
    have hc : ((i : Int) + 1) = ((i + 1 : Nat) : Int) := by push_cast; rfl
    wp_walk
    rw [hc]
    refine ⟨plainId_quiet plain_contains_loop _, codeAny_builtin entry_contains_loop ?_⟩
    rw [Around.under_plainId plain_contains_loop _]
    exact end_loop hv hn hR
theorem contains_one {l : Addr} {items : Array Value} {u x : Value} {n : Nat} {s : Shared} {Q : Value → Shared → Prop} (hl : s.heap.get? l = some { cls := .type "list", data := .seq items n }) (h0 : items[0]? = some u)
    (he : ∀ tk, wpAny (model prog w) A.in1 (eqBool u x) (fun k s' => (∃ (its : Array Value) (m : Nat), s'.heap.get? l = some { cls := .type "list", data := .seq its m } ∧ its[0 + 1]? = none) ∧ ∀ tk', Q (.bool k) { s' with toks := tk' }) E { s with toks := tk }) :
    wpAny (model prog w) A (compareOp .In x (.ref l)) Q E s := by
  show wpAny _ A (do return .bool (← contains (.ref l) x)) Q E s
  refine wpAny_bind (wpAny_contains_slot ⟨_, hl, rfl⟩ F.slot_list_contains (wpAny_mono (GQ.call_here (Q := fun v s' => ∃ k, v = .bool k ∧ ∀ tk', Q (.bool k) { s' with toks := tk' }) F.slot_list_contains ⟨_, hl, rfl⟩ F.entry_list_contains (F.args_list_contains_2 _ _) ?_) (fun v s' hv => ?_) fun _ _ e => e))
  · obtain ⟨hp, g, d, tk, os⟩ := s
    unfold Builtin.«list.__contains__»
    wp_walk
    refine ⟨plainId_quiet plain_contains_loop _, codeAny_builtin entry_contains_loop ?_⟩
    rw [Around.under_plainId plain_contains_loop _]
    exact one_loop (R := wants (fun v s' => ∃ k, v = .bool k ∧ ∀ tk', Q (.bool k) { s' with toks := tk' }) E) hl h0 (fun tk => wpAny_mono (he tk) (fun k s' hk => ⟨hk.1, fun tk' => ⟨k, rfl, hk.2⟩⟩) fun _ _ e => e)
  · obtain ⟨k, rfl, hq⟩ := hv
    exact wpAny_truthy_bool (wpAny_pure (hq _))
end
end MyG
namespace MyG
open PySem PySem.Spec PyProof.Rows L2 Evl
/-- x in [o]: o's own __eq__ is asked -/
def rInI (C : Addr) (sp : Sp) (E : XK) : R2 := fun x y H Q => ∃ a o p dx fs dy gs, x = .ref a ∧ y = .ref p ∧ H p = some (.lst [.ref o]) ∧ H a = some (.ins C dx fs) ∧ H o = some (.ins C dy gs) ∧ o ≠ a ∧
  sp [.ref o, .ref a] H (fun v H' => ∃ k, v = .bl k ∧ H' p = some (.lst [.ref o]) ∧ Q (.bl k) H') E
section
variable {X : Cx} {pins : List (Addr × Obj)} {σ : L2.St} {H : Hp} {s : Shared} {C f : Addr} {fd : FuncData} {ps : List Str} {n : Nat} {sp : Sp} {CX : CXT} {E : XK}
theorem op_inI (c : EqC X.K C f) (F : FnOk X.prog X.w X.K X.mg X.base CX n f fd ps sp) (room : Room (n + 1) X.A) (hb : Binds X.K fd ps []) (hx : Passes CX X E) : OpR X (compareOp .In) (rInI C sp E) := by
  intro pins s σ H x y v u Q I rx ry h
  obtain ⟨a, o, p, dx, fs, dy, gs, rfl, rfl, hp, ha, ho, hne, hs⟩ := h
  cases rx
  cases ry
  obtain ⟨_, us, k, rr, e⟩ := I.hok p _ hp
  obtain ⟨u0, rfl, h0⟩ : ∃ u0, us = [u0] ∧ u0 = Value.ref o := by
    cases rr with
    | cons r t =>
      cases t
      cases r
      exact ⟨_, rfl, rfl⟩
  subst h0
  refine contains_one (items := _) e (u := .ref o) rfl (fun tk => ?_)
  have I' := I.tok tk
  obtain ⟨mB, J, _⟩ := ins_get I'.hok ho
  obtain ⟨od, J, _⟩ := J.look
  obtain ⟨mA, J2, _⟩ := ins_get I'.hok ha
  obtain ⟨od2, J2, _⟩ := J2.look
  obtain ⟨m, hF⟩ := I'.fr
  refine GQ.eqBool_refG hne ?_
  refine PySem.W.cmp_K (op := .Eq) (tb := .ref C) room.in1.units0 hF I'.ok.mod.kin J J2.type (by simp [PySem.W.notFirst]) c.he c.hf ?_
  refine wpAny_mono (run_eq F room.in1 rfl hb hx I' (y := .ref a) (show RelV (V.ref a) (Value.ref a) from rfl) hs) (fun w s' hw => ?_) fun _ _ e => e
  obtain ⟨z, H', I'', rz, k, rfl, hl, hq⟩ := hw
  cases rz
  obtain ⟨_, vs, m', rr', e'⟩ := I''.hok p _ hl
  refine ⟨k, rfl, ⟨_, _, e', ?_⟩, fun tk' => ⟨.bl k, H', I''.tok tk', rfl, hq⟩⟩
  cases rr' with
  | cons r t =>
    cases t
    rfl
end
end MyG

set_option maxHeartbeats 2000000
/-! isinstance of an own class, data alike, lists cut. -/
namespace MyG
open PySem PySem.Spec PyProof.Rows L2 Evl
/-- what isinstance asks of a class -/
structure IsiC (K : PySem.W.Frag) (C : Addr) : Prop where
  ca : PySem.W.findIn K (.ref C) "__class__" = some (some (.builtin "object.__class__"))
  cn : PySem.W.specialIn K (.builtin "object.__class__") "__get__" = some (some (.builtin "getset_descriptor.__get__"))
  ct : PySem.W.takesIn K (.builtin "object.__class__") = some true
  cm : PySem.W.mroIn K C (.type "object") = some true
  ko : ∀ T ∈ kinds7, PySem.W.kitOne K (.type T) (.ref C) = some false
theorem all7 {P : String → Prop} (h1 : P "NoneType") (h2 : P "bool") (h3 : P "int") (h4 : P "str") (h5 : P "list") (h6 : P "tuple") (h7 : P "dict") : ∀ T ∈ kinds7, P T := by
  intro T h
  simp only [kinds7, List.mem_cons, List.not_mem_nil, or_false] at h
  rcases h with rfl | rfl | rfl | rfl | rfl | rfl | rfl <;> assumption
theorem kit_self {K : PySem.W.Frag} {C : Addr} : PySem.W.kitOne K (.ref C) (.ref C) = some true := by
  unfold PySem.W.kitOne
  rw [if_pos (beq_self_eq_true _)]
theorem isi_ins {K : PySem.W.Frag} {H : Hp} {C a dx : Addr} {fs : List (Str × V)} {Q : VK} (q : IsiC K C) (cl : Cls K C) (h : H a = some (.ins C dx fs)) (k : Q (.bl true) H) : rIsi K [.ref a, .ref C] H Q :=
  ⟨.ref a, .ref C, .ref C, .ref C, true, rfl, .own C, .base (.ins h cl q.ca q.cn q.ct q.cm), kit_self, k⟩
theorem isi_no {K : PySem.W.Frag} {H : Hp} {C : Addr} {x : V} {t : String} {Q : VK} (q : IsiC K C) (h : AnyT H x t) (k : Q (.bl false) H) : rIsi K [x, .ref C] H Q :=
  ⟨x, .ref C, .type t, .ref C, false, rfl, .own C, h.ty, q.ko t h.mem, k⟩
theorem revLK {X : Cx} {K : PySem.W.Frag} {e : Expr} {te : TE} {k : Nat} {p1 p2 p3 pos : Pos} (h : X.K = K) (he : PE X e te) : PE X (.Subscript e (.Slice none none (some (.UnaryOp .USub (.Constant (.int 1) k p1) p2)) p3) pos) (tRevL K te) := by subst h; exact pe_revL he
/-! ### data alike -/
theorem eqv_int (a b : Int) : PyData.eqv (.int a) (.int b) = decide (a = b) := by
  unfold PyData.eqv
  first | rfl | simp
theorem eqvAll_ints : ∀ ns ms : List Int, PyData.eqvAll (ns.map PyData.int) (ms.map PyData.int) = decide (ns = ms)
  | [], [] => by simp [PyData.eqvAll]
  | [], m :: ms => by simp [PyData.eqvAll]
  | n :: ns, [] => by simp [PyData.eqvAll]
  | n :: ns, m :: ms => by
    simp only [List.map_cons, PyData.eqvAll, eqvAll_ints ns ms, eqv_int]
    by_cases h : n = m <;> simp [h]
theorem eqv_ints (ns ms : List Int) : PyData.eqv (.list (ns.map PyData.int)) (.list (ms.map PyData.int)) = decide (ns = ms) := by
  rw [← eqvAll_ints]
  simp only [PyData.eqv]
end MyG

set_option maxHeartbeats 2000000
/-! More values that are known: len, list, sorted, repr, lists put together. -/
namespace MyG
open PySem PySem.Spec PyProof.Rows L2 Evl
section
variable {K : PySem.W.Frag} {σ : L2.St} {H : Hp} {ta tb te : TE}
theorem ev_lenQ {p : Addr} {xs : List V} (ha : Ev te σ H (.ref p)) (h : H p = some (.lst xs)) : Ev (tCB (rLenQ K) (tCons te tNil)) σ H (.int (xs.length : Int)) := fun H1 e Q q =>
  ha H1 e _ fun H2 e2 => ⟨p, xs, rfl, .inl (SqL.of ((e.trans e2) _ _ h)), q H2 e2⟩
theorem el_cat {a : Addr} {xs zs : List V} (h1 : Ev ta σ H (.ref a)) (ha : H a = some (.lst xs)) (h2 : ∀ H1, Ex H H1 → EvL tb σ H1 zs) (hl : xs.length + zs.length ≤ 1000) : EvL (tOp rCat ta tb) σ H (xs ++ zs) := fun H1 e Q q =>
  h1 H1 e _ fun H2 e2 => h2 H2 (e.trans e2) H2 (Ex.refl _) _ fun p H3 hp e3 h3 => ⟨a, p, xs, zs, rfl, rfl, e3 _ _ (e2 _ _ (e _ _ ha)), h3, Nat.le_of_lt (small1000 hl), fun t ht => q t _ (fresh_back (e2.trans e3) ht) ((e2.trans e3).trans (Ex.new ht)) upd_same⟩
theorem un_tup {as : TA} {Q : VK} (h : as σ H fun xs H1 => xs.length ≤ sizeLine ∧ ∀ p, H1 p = none → Q (.ref p) (upd H1 p (.tup xs))) : tTup as σ H Q := h
theorem el_listQ {p : Addr} {xs : List V} (ha : Ev te σ H (.ref p)) (h : H p = some (.lst xs)) : EvL (tCB (rListQ K) (tCons te tNil)) σ H xs := fun H1 e Q q =>
  ha H1 e _ fun H2 e2 => ⟨p, xs, rfl, .inl (SqL.of ((e.trans e2) _ _ h)), fun l hl => q l _ (fresh_back e2 hl) (e2.trans (Ex.new hl)) upd_same⟩
theorem el_revL {p : Addr} {xs : List V} (ha : Ev te σ H (.ref p)) (h : H p = some (.lst xs)) : EvL (tRevL K te) σ H xs.reverse := fun H1 e Q q =>
  ha H1 e _ fun H2 e2 => ⟨p, xs, rfl, SqL.of ((e.trans e2) _ _ h), fun l hl => q l _ (fresh_back e2 hl) (e2.trans (Ex.new hl)) upd_same⟩
theorem el_sorted {p : Addr} {ns qs : List Int} (ha : Ev te σ H (.ref p)) (h : H p = some (.lst (ns.map V.int))) (hl : ns.length < 64) (pm : qs.Perm ns) (so : qs.Pairwise (· ≤ ·)) : EvL (tCB (rSorted K) (tCons te tNil)) σ H (qs.map V.int) := fun H1 e Q q =>
  ha H1 e _ fun H2 e2 => ⟨p, ns, rfl, SqL.of ((e.trans e2) _ _ h), hl, fun ns' l pm' so' hl' => by
    obtain rfl : ns' = qs := PySem.W.ksm_same (pm'.trans pm.symm) so' so
    exact q l _ (fresh_back e2 hl') (e2.trans (Ex.new hl')) upd_same⟩
theorem ev_reprL {xs : List V} {ds : List PyData} {k L : Nat} (ha : EvL te σ H xs) (hd : ∀ H1, Ex H H1 → DpAll K H1 xs ds) (s : Small (.list ds) k L) (hk : k ≤ 40 := by decide) (hL : L ≤ 16000000 := by decide) : Ev (tCB (rReprD K) (tCons te tNil)) σ H (.str (PyData.shown (.list ds))) := fun H1 e Q q =>
  ha H1 e _ fun p H2 hp e2 h2 => ⟨.ref p, .list ds, rfl, .lst (SqL.of h2) (hd H2 (e.trans e2)), s.sh, s.nd, Nat.le_trans s.dp hk, Nat.le_trans (Nat.le_trans s.ln hL) (by rw [sizeLine_eq]; decide), q H2 e2⟩
theorem ev_repr {x : V} {d : PyData} {k L : Nat} (ha : Ev te σ H x) (hd : ∀ H1, Ex H H1 → Dp K H1 x d) (s : Small d k L) (hk : k ≤ 40 := by decide) (hL : L ≤ 16000000 := by decide) : Ev (tCB (rReprD K) (tCons te tNil)) σ H (.str (PyData.shown d)) := fun H1 e Q q =>
  ha H1 e _ fun H2 e2 => ⟨x, d, rfl, hd H2 (e.trans e2), s.sh, s.nd, Nat.le_trans s.dp hk, Nat.le_trans (Nat.le_trans s.ln hL) (by rw [sizeLine_eq]; decide), q H2 e2⟩
theorem dp_bls {H : Hp} : ∀ bs : List Bool, DpAll K H (bs.map V.bl) (bs.map PyData.bool)
  | [] => .nil
  | b :: bs => .cons (.bl b) (dp_bls bs)
end
theorem cut_lo (xs : List V) {k : Nat} (h : k ≤ xs.length) : cutV xs none (some (k : Int)) = xs.take k := by
  unfold cutV
  rw [HT.sIx_none, HT.sIx_nat, List.drop_zero]
  congr 1
  omega
theorem cut_hi (xs : List V) {k : Nat} (h : k ≤ xs.length) : cutV xs (some (k : Int)) none = xs.drop k := by
  unfold cutV
  rw [HT.sIx_none, HT.sIx_nat, show min k xs.length = k by omega]
  rw [List.take_of_length_le (by rw [List.length_drop]; omega)]
theorem small_bool (b : Bool) : Small (.bool b) 0 10 := by
  refine ⟨rfl, rfl, Nat.le_refl _, ?_, rfl⟩
  cases b <;> decide +kernel
theorem small_bools {bs : List Bool} {N : Nat} (hl : bs.length ≤ N) : Small (.list (bs.map PyData.bool)) 1 (N * 12 + 3) := by
  have h := small_list (k := 0) (L := 10) (ds := bs.map PyData.bool) (fun d hd => by
    obtain ⟨x, _, rfl⟩ := List.mem_map.mp hd
    exact small_bool x)
  refine h.mono (Nat.le_refl _) ?_
  rw [List.length_map]
  have := Nat.mul_le_mul_right 12 hl
  omega
end MyG

set_option maxHeartbeats 2000000
/-! Letters: values of one of two classes, t[:0:-1], isinstance with a tuple of kinds. -/
namespace MyG
open PySem PySem.Spec PyProof.Rows L2 Evl HT
/-! ### one of two rules, as the value is -/
def tEi (t1 t2 : TE) : TE := fun σ H Q => t1 σ H Q ∨ t2 σ H Q
theorem pe_either {X : Cx} {e : Expr} {t1 t2 : TE} (h1 : PE X e t1) (h2 : PE X e t2) : PE X e (tEi t1 t2) := ⟨fun pins s σ H Q I h => h.elim (h1.run pins s σ H Q I) (h2.run pins s σ H Q I)⟩
section
variable {t1 t2 : TE} {σ : L2.St} {H : Hp}
theorem ei_l {Q : VK} (h : t1 σ H Q) : tEi t1 t2 σ H Q := .inl h
theorem ei_r {Q : VK} (h : t2 σ H Q) : tEi t1 t2 σ H Q := .inr h
theorem ev_l {v : V} (h : Ev t1 σ H v) : Ev (tEi t1 t2) σ H v := fun H1 e Q q => .inl (h H1 e Q q)
theorem ev_r {v : V} (h : Ev t2 σ H v) : Ev (tEi t1 t2) σ H v := fun H1 e Q q => .inr (h H1 e Q q)
theorem eu_l {xs : List V} (h : EvU t1 σ H xs) : EvU (tEi t1 t2) σ H xs := fun H1 e Q q => .inl (h H1 e Q q)
theorem eu_r {xs : List V} (h : EvU t2 σ H xs) : EvU (tEi t1 t2) σ H xs := fun H1 e Q q => .inr (h H1 e Q q)
end
/-! ### t[:0:-1], t a tuple -/
theorem fm_take {α : Type} (r : List α) : ∀ k, k ≤ r.length → (List.range k).filterMap (fun m => r[m]?) = r.take k
  | 0, _ => by simp
  | k + 1, h => by
    rw [List.range_succ, List.filterMap_append, fm_take r k (by omega), List.take_add_one]
    simp [List.getElem?_eq_getElem (show k < r.length by omega)]
theorem back_ix {α : Type} (l : List α) : ((List.range (l.length - 1)).filterMap fun (m : Nat) => l[(((l.length : Nat) : Int) - 1 + (m : Int) * -1).toNat]?) = (l.drop 1).reverse := by
  have e : (List.range (l.length - 1)).filterMap (fun (m : Nat) => l[(((l.length : Nat) : Int) - 1 + (m : Int) * -1).toNat]?) = (List.range (l.length - 1)).filterMap (fun m => l.reverse[m]?) := by
    have z := congrArg (List.filterMap id) (List.map_congr_left (l := List.range (l.length - 1)) (f := fun (m : Nat) => l[(((l.length : Nat) : Int) - 1 + (m : Int) * -1).toNat]?) (g := fun m => l.reverse[m]?) fun m hm => by
      have := List.mem_range.mp hm
      rw [List.getElem?_reverse (by omega)]
      congr 1
      omega)
    rw [List.filterMap_map, List.filterMap_map] at z
    exact z
  rw [e, fm_take _ _ (by rw [List.length_reverse]; omega), List.take_reverse]
  by_cases h : l.length = 0
  · rw [List.length_eq_zero_iff.mp h]; rfl
  · rw [show l.length - (l.length - 1) = 1 by omega]
section
variable {prog : Program} {w : World} {A : Around} {E : Value → Shared → Prop} {s : Shared}
theorem sliceApplied_back {sl : Addr} {vl vu vs : Value} {n : Nat} {Q : Int × Int × Nat → Shared → Prop} (hs : s.heap.IsSliceOf sl vl vu vs) (pl : IsPart vl none) (pu : IsPart vu (some 0)) (ps : IsPart vs (some (-1)))
    (h : Q (((n : Nat) : Int) - 1, -1, n - 1) s) : wpAny (model prog w) A (Builtin.Slice.sliceApplied (.ref sl) (pure (n : Int))) Q E s := by
  obtain ⟨os, hos, hcs, hds⟩ := id hs
  unfold Builtin.Slice.sliceApplied Builtin.Slice.sliceFields
  refine wpAny_bind (wpAny_bind (wpAny_field hos hds (x := vl) rfl (wpAny_bind (wpAny_field hos hds (x := vu) rfl (wpAny_bind (wpAny_field hos hds (x := vs) rfl (wpAny_pure ?_)))))))
  refine wpAny_bind (slicePart_ ps ?_)
  show wpAny _ _ (if ((-1 : Int) == 0) = true then _ else _) _ _ s
  rw [if_neg (by decide)]
  refine wpAny_bind (slicePart_ pl (wpAny_bind (slicePart_ pu (wpAny_bind (wpAny_pure ?_)))))
  have e : Builtin.Slice.sliceAdjust none (some 0) (-1) (n : Int) = ((n : Int) - 1, (if (0 : Int) ≤ (n : Int) - 1 then 0 else (n : Int) - 1)) := by
    unfold Builtin.Slice.sliceAdjust
    simp only [show ((-1 : Int) < 0) = True by simp, if_true, show ¬ ((0 : Int) < 0) by decide, if_false]
    congr 1
  have e2 : Builtin.Slice.slicePlaces ((n : Int) - 1) (if (0 : Int) ≤ (n : Int) - 1 then 0 else (n : Int) - 1) (-1) = n - 1 := by
    unfold Builtin.Slice.slicePlaces
    have h1 : ¬ ((-1 : Int) > 0) := by omega
    simp only [h1, if_false, show (-(-1) : Int) = 1 by rfl, Int.ediv_one]
    split <;> split <;> omega
  show wpAny _ _ (match Builtin.Slice.sliceAdjust none (some 0) (-1) (n : Int) with | (lo, hi) => pure (lo, (-1 : Int), Builtin.Slice.slicePlaces lo hi (-1))) _ _ s
  rw [e]
  show wpAny _ _ (pure ((n : Int) - 1, (-1 : Int), Builtin.Slice.slicePlaces ((n : Int) - 1) (if (0 : Int) ≤ (n : Int) - 1 then 0 else (n : Int) - 1) (-1))) _ _ s
  rw [e2]
  exact wpAny_pure h
theorem getItem_tuple_back {t sl : Addr} {items : Array Value} {vl vu vs : Value} {Q : Value → Shared → Prop} (ht : IsTup s.heap t items) (hs : s.heap.IsSliceOf sl vl vu vs) (pl : IsPart vl none) (pu : IsPart vu (some 0)) (ps : IsPart vs (some (-1)))
    (h : Q (.ref s.heap.objs.size) { s with heap := s.heap.push { cls := .type "tuple", data := .seq ((items.toList.drop 1).reverse).toArray } })
    (hsz : items.size ≤ sizeLine) : wpAny (model prog w) A (getItem (.ref t) (.ref sl)) Q E s := by
  have htake : sizeOk (.seq ((items.toList.drop 1).reverse).toArray) := by
    show ((items.toList.drop 1).reverse).toArray.size ≤ sizeLine
    rw [List.size_toArray, List.length_reverse, List.length_drop, Array.length_toList]
    omega
  obtain ⟨os, hos, hcs, hds⟩ := id hs
  have hTs : s.TypeIs (.ref sl) "slice" := ⟨os, hos, hcs⟩
  unfold getItem
  try with_reducible refine wpAny_holding ?_
  first | refine wpAny_bind (wpAny_pure ?_) | skip
  refine wpAny_bind (wpAny_sequenceKey ht.typeIs (by decide) ?_)
  refine wpAny_bind (wpAny_callSpecial?_slot (name := Str.ofString "__getitem__") ht.typeIs PyProof.Rows.slot_tuple_getitem
    (wpAny_call_entry PyProof.Rows.slot_tuple_getitem ht.typeIs entry_tuple_getitem ?_ (args_tuple_getitem _ _)))
  show wpAny _ _ (Builtin.Tuple.tupleItemsOf (.ref t) >>= _) _ _ s
  refine wpAny_bind (tupleItemsOf_ ht ?_)
  refine wpAny_bind (wpAny_typeOf hTs ?_)
  rw [if_pos (by decide)]
  refine wpAny_bind (sliceApplied_back hs pl pu ps ?_)
  have hno : ¬ (((((items.size : Nat) : Int) - 1) == 0 && (-1 : Int) == 1 && (items.size - 1) == items.size) = true) := by
    intro q
    rw [Bool.and_eq_true, Bool.and_eq_true] at q
    exact absurd q.1.2 (by decide)
  show wpAny _ _ (if ((((items.size : Nat) : Int) - 1) == 0 && (-1 : Int) == 1 && (items.size - 1) == items.size) = true then _ else _) _ _ s
  have hp : ((List.range (items.size - 1)).filterMap fun (m : Nat) => items[(((items.size : Nat) : Int) - 1 + (m : Int) * -1).toNat]?).toArray = ((items.toList.drop 1).reverse).toArray := by
    rw [← back_ix]
    rw [Array.length_toList]
    simp only [Array.getElem?_toList]
  rw [if_neg hno, hp]
  first
    | exact wpAny_bind (m := Builtin.Tuple.tupleExact _) (wpAny_newObj_type (wpAny_pure ⟨_, rfl, wpAny_pure h⟩) htake)
    | exact wpAny_bind (m := Builtin.Tuple.tupleExact _) (wpAny_newObj_type (wpAny_bind (wpAny_pure (wpAny_pure ⟨_, rfl, wpAny_pure h⟩))) htake)
    | exact wpAny_bind (wpAny_bind (m := Builtin.Tuple.tupleExact _) (wpAny_newObj_type (wpAny_pure (wpAny_pure ⟨_, rfl, wpAny_pure h⟩)) htake))
    | exact wpAny_bind (wpAny_bind (m := Builtin.Tuple.tupleExact _) (wpAny_newObj_type (wpAny_pure ⟨_, rfl, wpAny_pure h⟩) htake))
end
def tBackT (K : PySem.W.Frag) (te : TE) : TE := fun σ H Q => te σ H fun x H1 => ∃ a xs, x = .ref a ∧ SqT K H1 a xs ∧ ∀ p, H1 p = none → Q (.ref p) (upd H1 p (.tup (xs.drop 1).reverse))
theorem vals_back {xs : List V} {us : List Value} (r : Vals xs us) : Vals (xs.drop 1).reverse (us.drop 1).reverse := by
  cases r with
  | nil => exact .nil
  | cons _ r => exact L2.Vals.reverse r
theorem backTK {X : Cx} {K : PySem.W.Frag} {e : Expr} {te : TE} {k k0 : Nat} {p0 p1 p2 p3 pos : Pos} (hK : X.K = K) (he : PE X e te) : PE X (.Subscript e (.Slice none (some (.Constant (.int 0) k0 p0)) (some (.UnaryOp .USub (.Constant (.int 1) k p1) p2)) p3) pos) (tBackT K te) := by
  subst hK
  refine ⟨fun pins s σ H Q I h => ?_⟩
  refine Subscript_ (thn (he.run pins s σ H _ I h) fun v s1 ⟨x, H1, I1, r1, q1⟩ => ?_)
  obtain ⟨a, xs, ex, hx, q⟩ := q1
  subst ex
  cases r1
  have hst : PO X (some (.UnaryOp .USub (.Constant (.int 1) k p1) p2)) (tPart (tUn (rU fun i => .int (-i)) (tC (.int 1)))) := po_some (pe_un un_neg pe_int)
  have hup : PO X (some (.Constant (.int 0) k0 p0)) (tPart (tC (.int 0))) := po_some pe_int
  refine wpAny_Slice (thn (po_none.run pins s1 σ H1 (fun o H2 => o = none ∧ H2 = H1) I1 ⟨rfl, rfl⟩) fun vl s2 ⟨l, H2, I2, pl, el, e2⟩ => ?_)
  subst el e2
  refine thn (hup.run pins s2 σ H2 (fun o H3 => o = some 0 ∧ H3 = H2) I2 ⟨0, rfl, rfl, rfl⟩) fun vu s3 ⟨u, H3, I3, pu, eu, e3⟩ => ?_
  subst eu e3
  refine thn (hst.run pins s3 σ H3 (fun o H4 => o = some (-1) ∧ H4 = H3) I3 ⟨1, rfl, -1, rfl, rfl, rfl⟩) fun vs s4 ⟨o, H4, I4, ps, eo, e4⟩ => ?_
  subst eo e4
  have I5 : Inv X pins σ H4 { s4 with heap := s4.heap.push { cls := .type "slice", data := .fields #[vl, vu, vs] } } := I4.kept (t' := s4.toks) fun b ob q => Heap.get?_push_of_some _ q
  obtain ⟨its, r, ht, hz⟩ := I5.tuple hx
  have hlen := r.length
  show wpAny (model X.prog X.w) X.A (subscriptTail e (.Slice none (some (.Constant (.int 0) k0 p0)) (some (.UnaryOp .USub (.Constant (.int 1) k p1) p2)) p3) (.ref a) (.ref s4.heap.objs.size)) (EP X pins σ Q) X.xe { s4 with heap := s4.heap.push { cls := .type "slice", data := .fields #[vl, vu, vs] } }
  refine tail_any (ops := [.ref a, .ref s4.heap.objs.size]) ht.typeIs (PyProof.Rows.slot_tuple_getitem.lookup) ?_ (by with_unfolding_all rfl)
  refine getItem_tuple_back ht (Heap.IsSliceOf.new _ vl vu vs) pl pu ps ?_ (by rw [List.size_toArray]; omega)
  refine ⟨.ref _, _, I5.laid (t' := s4.toks) (o := .tup (xs.drop 1).reverse) (fun b ob q => Heap.get?_push_of_some _ q) (Nat.le_refl _) ?_, rfl, q _ (I5.hok.fresh (Nat.le_refl _))⟩
  exact ⟨by rw [List.length_reverse, List.length_drop]; omega, _, vals_back r, IsTup.new _ _⟩
/-! ### isinstance with a tuple of kinds -/
theorem isiTK {X : Cx} {K : PySem.W.Frag} (h : X.K = K) : CallR X (.builtin "isinstance") (rIsiT K) := by subst h; exact call_isiT
/-- isinstance(x, (list, tuple)) -/
theorem ev_isiLT {K : PySem.W.Frag} {σ : L2.St} {H : Hp} {te : TE} {x : V} {t : String} (h : Ev te σ H x) (ht : AnyT H x t) : Ev (tCB (rIsiT K) (tCons te (tCons (tTup (tCons (tC (.ty "list")) (tCons (tC (.ty "tuple")) tNil))) tNil))) σ H (.bl (t == "list" || t == "tuple")) := fun H1 e Q q =>
  h H1 e _ fun H2 e2 => ⟨by show 2 ≤ sizeLine; decide, fun p hp => ⟨x, p, [.ty "list", .ty "tuple"], .type t, [.type "list", .type "tuple"], _, rfl, upd_same, .cons (.ty _) (.cons (.ty _) .nil), ((ht.ext (e.trans e2)).ext (Ex.new hp)).ty, by
    have k := kit_all ht.mem
    unfold PySem.W.kitAny
    rw [kit_ty k.2.2.1]
    cases t == "list" with
    | true => rfl
    | false =>
      show PySem.W.kitAny _ _ _ = _
      unfold PySem.W.kitAny
      rw [kit_ty k.2.2.2.1]
      cases t == "tuple" with
      | true => rfl
      | false => rfl, q _ (e2.trans (Ex.new hp))⟩⟩
theorem ev_isiO {K : PySem.W.Frag} {σ : L2.St} {H : Hp} {te : TE} {x : V} {t T : String} {b : Bool} (h : Ev te σ H x) (ht : AnyT H x t) (hb : kitB t T = some b) : Ev (tCB (rIsi K) (tCons te (tCons (tC (.ty T)) tNil))) σ H (.bl b) := fun H1 e Q q =>
  h H1 e _ fun H2 e2 => ⟨x, .ty T, .type t, .type T, b, rfl, .ty _, (ht.ext (e.trans e2)).ty, kit_ty hb, q H2 e2⟩
/-! ### data that are tracked -/
mutual
inductive Dq (H : Hp) : V → PyData → Prop
  | non : Dq H .non .none
  | bl (b : Bool) : Dq H (.bl b) (.bool b)
  | int (i : Int) : Dq H (.int i) (.int i)
  | str (x : Str) : Dq H (.str x) (.str x)
  | lst {a : Addr} {xs : List V} {ds : List PyData} : H a = some (.lst xs) → DqAll H xs ds → Dq H (.ref a) (.list ds)
  | tup {a : Addr} {xs : List V} {ds : List PyData} : H a = some (.tup xs) → DqAll H xs ds → Dq H (.ref a) (.tuple ds)
inductive DqAll (H : Hp) : List V → List PyData → Prop
  | nil : DqAll H [] []
  | cons {v : V} {vs : List V} {d : PyData} {ds : List PyData} : Dq H v d → DqAll H vs ds → DqAll H (v :: vs) (d :: ds)
end
mutual
theorem Dq.ext {H H' : Hp} (e : Ex H H') : ∀ {v : V} {d : PyData}, Dq H v d → Dq H' v d
  | _, _, .non => .non
  | _, _, .bl b => .bl b
  | _, _, .int i => .int i
  | _, _, .str x => .str x
  | _, _, .lst h a => .lst (e _ _ h) (DqAll.ext e a)
  | _, _, .tup h a => .tup (e _ _ h) (DqAll.ext e a)
theorem DqAll.ext {H H' : Hp} (e : Ex H H') : ∀ {vs : List V} {ds : List PyData}, DqAll H vs ds → DqAll H' vs ds
  | _, _, .nil => .nil
  | _, _, .cons h a => .cons (Dq.ext e h) (DqAll.ext e a)
end
mutual
theorem Dq.dp {K : PySem.W.Frag} {H : Hp} : ∀ {v : V} {d : PyData}, Dq H v d → Dp K H v d
  | _, _, .non => .non
  | _, _, .bl b => .bl b
  | _, _, .int i => .int i
  | _, _, .str x => .str x
  | _, _, .lst h a => .lst (SqL.of h) (DqAll.dp a)
  | _, _, .tup h a => .tup (SqT.of h) (DqAll.dp a)
theorem DqAll.dp {K : PySem.W.Frag} {H : Hp} : ∀ {vs : List V} {ds : List PyData}, DqAll H vs ds → DpAll K H vs ds
  | _, _, .nil => .nil
  | _, _, .cons h a => .cons (Dq.dp h) (DqAll.dp a)
end
def kindD : PyData → String
  | .none => "NoneType"
  | .bool _ => "bool"
  | .int _ => "int"
  | .str _ => "str"
  | .list _ => "list"
  | .tuple _ => "tuple"
  | _ => "dict"
theorem Dq.any {H : Hp} {v : V} {d : PyData} (h : Dq H v d) : AnyT H v (kindD d) := by
  cases h with
  | non => exact .non
  | bl b => exact .bl b
  | int i => exact .int i
  | str x => exact .str x
  | lst h _ => exact .lst h
  | tup h _ => exact .tup h
theorem DqAll.len {H : Hp} : ∀ {vs : List V} {ds : List PyData}, DqAll H vs ds → vs.length = ds.length
  | _, _, .nil => rfl
  | _, _, .cons _ a => by rw [List.length_cons, List.length_cons, DqAll.len a]
theorem DqAll.at {H : Hp} : ∀ {vs : List V} {ds : List PyData} {i : Nat} {v : V}, DqAll H vs ds → vs[i]? = some v → ∃ d, ds[i]? = some d ∧ Dq H v d
  | _, _, 0, _, .cons h _, e => by
    rw [List.getElem?_cons_zero] at e
    obtain rfl := Option.some.inj e
    exact ⟨_, rfl, h⟩
  | _, _, i + 1, _, .cons _ a, e => by
    rw [List.getElem?_cons_succ] at e
    obtain ⟨d, h1, h2⟩ := DqAll.at a e
    exact ⟨d, h1, h2⟩
/-- what an own walk of at most k layers can look through -/
def alk : Nat → PyData → Bool
  | 0, _ => false
  | k + 1, .list ds => decide (ds.length ≤ 1000) && ds.all (alk k)
  | k + 1, .tuple ds => decide (ds.length ≤ 1000) && ds.all (alk k)
  | _ + 1, .none => true
  | _ + 1, .bool _ => true
  | _ + 1, .int _ => true
  | _ + 1, .str _ => true
  | _, _ => false
/-- data alike -/
def sp_alike (k : Nat) : Sp := fun vs H Q _ => ∃ x y d, vs = [x, y] ∧ Dq H x d ∧ Dq H y d ∧ alk k d = true ∧ ∀ H', Ex H H' → Q (.bl true) H'
/-! ### own ==, the other thing of any class -/
def AnyJ (K : PySem.W.Frag) (C : Addr) (H : Hp) (y : V) : Prop := (∃ t, AnyT H y t) ∨ ∃ b D dy gs, y = .ref b ∧ H b = some (.ins D dy gs) ∧ PySem.W.notFirst K C (.ref D) = true
theorem notFirst_self {K : PySem.W.Frag} {C : Addr} : PySem.W.notFirst K C (.ref C) = true := by simp [PySem.W.notFirst]
theorem notFirst_other {K : PySem.W.Frag} {C D : Addr} (h : PySem.W.subIn K (.ref D) (.ref C) = some false) : PySem.W.notFirst K C (.ref D) = true := by simp [PySem.W.notFirst, h]
def rEqJ (K : PySem.W.Frag) (C : Addr) (sp : Sp) (E : XK) : R2 := fun x y H Q => ∃ a dx fs, x = .ref a ∧ H a = some (.ins C dx fs) ∧ AnyJ K C H y ∧ sp [.ref a, y] H (fun v H' => ∃ k, v = .bl k ∧ Q (.bl k) H') E
def rNeJ (K : PySem.W.Frag) (C : Addr) (sp : Sp) (E : XK) : R2 := fun x y H Q => ∃ a dx fs, x = .ref a ∧ H a = some (.ins C dx fs) ∧ AnyJ K C H y ∧ sp [.ref a, y] H (fun v H' => ∃ k, v = .bl k ∧ Q (.bl (!k)) H') E
section
variable {X : Cx} {K : PySem.W.Frag} {pins : List (Addr × Obj)} {σ : L2.St} {H : Hp} {s : Shared} {C f : Addr} {fd : FuncData} {ps : List Str} {n : Nat} {sp : Sp} {CX : CXT} {E : XK}
theorem op_eqJ (hK : X.K = K) (c : EqC K C f) (F : FnOk X.prog X.w X.K X.mg X.base CX n f fd ps sp) (room : Room n X.A) (hb : Binds X.K fd ps []) (hx : Passes CX X E) : OpR X (compareOp .Eq) (rEqJ K C sp E) := by
  subst hK
  intro pins s σ H x y v u Q I rx ry h
  obtain ⟨a, dx, fs, rfl, ha, hy, hs⟩ := h
  cases rx
  obtain ⟨mA, J, _⟩ := ins_get I.hok ha
  obtain ⟨od, J, _⟩ := J.look
  obtain ⟨m, hF⟩ := I.fr
  show wpAny (model X.prog X.w) X.A (richCompare .Eq (.ref a) u) (EP X pins σ Q) X.xe s
  have go : wpAny (model X.prog X.w) X.A (call (.ref f) [.ref a, u]) (PySem.W.CmpBack (EP X pins σ Q)) X.xe s := by
    refine wpAny_mono (run_eq F room rfl hb hx I ry hs) (fun w s' hw => ?_) fun _ _ e => e
    obtain ⟨z, H', I', rz, k, rfl, hq⟩ := hw
    cases rz
    exact ⟨.bl k, H', I', rfl, hq⟩
  rcases hy with ⟨t, ht⟩ | ⟨b, D, dy, gs, rfl, hb', hn⟩
  · exact PySem.W.cmp_K (op := .Eq) (tb := .type t) room.units0 hF I.ok.mod.kin J (any_looks I ry ht) (first7 ht.mem) c.he c.hf go
  · cases ry
    obtain ⟨mB, J', _⟩ := ins_get I.hok hb'
    obtain ⟨od', J', _⟩ := J'.look
    exact PySem.W.cmp_K (op := .Eq) (tb := .ref D) room.units0 hF I.ok.mod.kin J J'.type hn c.he c.hf go
theorem op_neJ (hK : X.K = K) (c : EqC K C f) (F : FnOk X.prog X.w X.K X.mg X.base CX n f fd ps sp) (room : Room (n + 1) X.A) (hb : Binds X.K fd ps []) (hx : Passes CX X E) : OpR X (compareOp .NotEq) (rNeJ K C sp E) := by
  subst hK
  intro pins s σ H x y v u Q I rx ry h
  obtain ⟨a, dx, fs, rfl, ha, hy, hs⟩ := h
  cases rx
  obtain ⟨mA, J, _⟩ := ins_get I.hok ha
  obtain ⟨od, J, _⟩ := J.look
  show wpAny (model X.prog X.w) X.A (richCompare .NotEq (.ref a) u) (EP X pins σ Q) X.xe s
  have un := room.units
  obtain ⟨hp, g, d, tk, os⟩ := s
  have go : ∀ tk', wpAny (model X.prog X.w) X.A.in1 (call (.ref f) [.ref a, u]) (fun v s' => ∃ k, v = .bool k ∧ EP X pins σ Q (.bool (!k)) s') X.xe ⟨hp, g, d, tk', os⟩ := by
    intro tk'
    refine wpAny_mono (run_eq F room.in1 rfl hb hx (I.tok tk') ry hs) (fun w s' hw => ?_) fun _ _ e => e
    obtain ⟨z, H', I', rz, k, rfl, hq⟩ := hw
    cases rz
    exact ⟨k, rfl, .bl (!k), H', I', rfl, hq⟩
  rcases hy with ⟨t, ht⟩ | ⟨b, D, dy, gs, rfl, hb', hn⟩
  · exact ne_own (tb := .type t) I.kIn J (any_looks I ry ht) (first7 ht.mem) c.he c.hf c.ne c.ob (by omega) go
  · cases ry
    obtain ⟨mB, J', _⟩ := ins_get I.hok hb'
    obtain ⟨od', J', _⟩ := J'.look
    exact ne_own (tb := .ref D) I.kIn J J'.type hn c.he c.hf c.ne c.ob (by omega) go
end
/-- isinstance of an instance of the class at D with the class at C -/
theorem isi_insD {K : PySem.W.Frag} {H : Hp} {C D a dx : Addr} {fs : List (Str × V)} {b : Bool} {Q : VK} (q : IsiC K D) (cl : Cls K D) (kb : PySem.W.kitOne K (.ref D) (.ref C) = some b) (h : H a = some (.ins D dx fs)) (k : Q (.bl b) H) : rIsi K [.ref a, .ref C] H Q :=
  ⟨.ref a, .ref C, .ref D, .ref C, b, rfl, .own C, .base (.ins h cl q.ca q.cn q.ct q.cm), kb, k⟩
/-! ### x or y, by truth -/
theorem orTK {X : Cx} {K : PySem.W.Frag} {a b : Expr} {ta tb : TE} {rest : List Expr} {pos : Pos} (h : X.K = K) (ha : PE X a ta) (hb : PE X (.BoolOp .Or (b :: rest) pos) tb) : PE X (.BoolOp .Or (a :: b :: rest) pos) (tOrT K ta tb) := by subst h; exact pe_orT ha hb
section
variable {K : PySem.W.Frag} {σ : L2.St} {H : Hp} {ta tb te : TE}
theorem el_or1 {xs : List V} (h : EvL ta σ H xs) (hne : xs ≠ []) : EvL (tOrT K ta tb) σ H xs := fun H1 e Q q =>
  h H1 e _ fun p H2 hp e2 h2 => ⟨true, .inl ⟨xs, SqL.of h2, by cases xs with | nil => exact absurd rfl hne | cons _ _ => rfl⟩, iteT (q p H2 hp e2 h2)⟩
theorem el_or2 {ys : List V} (h : EvL ta σ H []) (h2 : EvL tb σ H ys) : EvL (tOrT K ta tb) σ H ys := fun H1 e Q q =>
  h H1 e _ fun p H2 hp e2 hx => ⟨false, .inl ⟨[], SqL.of hx, rfl⟩, iteF (h2 H2 (e.trans e2) Q fun p' H3 hp' e3 h3 => q p' H3 (fresh_back e2 hp') (e2.trans e3) h3)⟩
theorem el_or {xs ys : List V} (h : EvL ta σ H xs) (h2 : xs = [] → EvL tb σ H ys) : EvL (tOrT K ta tb) σ H (if xs.isEmpty then ys else xs) := by
  cases xs with
  | nil => exact el_or2 h (h2 rfl)
  | cons x r => exact el_or1 h (by simp)
theorem given_allF (ys : List V) : given ys.length (fun _ => true) (fun i => ys.getD i .non) = ys := by
  unfold given
  rw [List.filter_eq_self.mpr (fun _ _ => rfl)]
  refine List.ext_getElem (by simp) (fun i h1 h2 => ?_)
  rw [List.getElem_map, List.getElem_range, List.getD_eq_getElem?_getD, List.getElem?_eq_getElem h2]
  rfl
/-- [e for x in a new list], each thing as it is -/
theorem el_mapF {xs ys : List V} {tl : TE} {j : Nat} {vs : List Nat} (h : EvL tl σ H xs) (hz : xs.length ≤ 40000) (hl : ys.length = xs.length)
    (hw : ∀ x, wipe ((wipe σ vs).set j (some x)) vs = wipe σ vs) (he : ∀ (i : Nat) (x y : V) H1, Ex H H1 → xs[i]? = some x → ys[i]? = some y → Ev te ((wipe σ vs).set j (some x)) H1 y) : EvL (tLc (iList K tl) (gName j) tYes te vs) σ H ys := by
  have k := el_lcNL (K := K) (t := tYes) (te := te) (fun _ => true) (fun i => ys.getD i .non) h hz hw (fun i x H1 e hi => fun H1 _ _ q => q H1 (Ex.refl H1)) (fun i x H1 e hi _ => by
    have h1 := (List.getElem?_eq_some_iff.mp hi).1
    have h2 : i < ys.length := by omega
    rw [show ys.getD i .non = ys[i] by rw [List.getD_eq_getElem?_getD, List.getElem?_eq_getElem h2]; rfl]
    exact he i x _ H1 e hi (List.getElem?_eq_getElem h2))
  rw [← hl, given_allF] at k
  exact k
theorem cut_all (xs : List V) {k : Nat} (h : xs.length ≤ k) : cutV xs none (some (k : Int)) = xs := by
  unfold cutV
  rw [sIx_none, sIx_nat, List.drop_zero, Nat.min_eq_right h, Nat.sub_zero, List.take_length]
end
section
variable {K : PySem.W.Frag} {σ : L2.St} {H : Hp} {ta tb te : TE} {x : V} {t : String}
theorem ev_isi_int (h : Ev te σ H x) (ht : AnyT H x t) : Ev (tCB (rIsi K) (tCons te (tCons (tC (.ty "int")) tNil))) σ H (.bl (t == "int" || t == "bool")) := ev_isiO h ht (kit_all ht.mem).1
theorem ev_isi_bool (h : Ev te σ H x) (ht : AnyT H x t) : Ev (tCB (rIsi K) (tCons te (tCons (tC (.ty "bool")) tNil))) σ H (.bl (t == "bool")) := ev_isiO h ht (kit_all ht.mem).2.1
theorem ev_isi_list (h : Ev te σ H x) (ht : AnyT H x t) : Ev (tCB (rIsi K) (tCons te (tCons (tC (.ty "list")) tNil))) σ H (.bl (t == "list")) := ev_isiO h ht (kit_all ht.mem).2.2.1
theorem ev_isi_tuple (h : Ev te σ H x) (ht : AnyT H x t) : Ev (tCB (rIsi K) (tCons te (tCons (tC (.ty "tuple")) tNil))) σ H (.bl (t == "tuple")) := ev_isiO h ht (kit_all ht.mem).2.2.2.1
theorem ev_isi_str (h : Ev te σ H x) (ht : AnyT H x t) : Ev (tCB (rIsi K) (tCons te (tCons (tC (.ty "str")) tNil))) σ H (.bl (t == "str")) := ev_isiO h ht (kit_all ht.mem).2.2.2.2.1
theorem ev_isi_dict (h : Ev te σ H x) (ht : AnyT H x t) : Ev (tCB (rIsi K) (tCons te (tCons (tC (.ty "dict")) tNil))) σ H (.bl (t == "dict")) := ev_isiO h ht (kit_all ht.mem).2.2.2.2.2
theorem ev_isN (h : Ev te σ H x) : Ev (tOp (fun x y H Q => y = V.non ∧ Q (V.bl (decide (x = V.non))) H) te (tC V.non)) σ H (.bl (decide (x = .non))) := ev_op h ev_c fun H1 e Q q => ⟨rfl, q H1 (Ex.refl H1)⟩
theorem ev_allN {bs : List Bool} (h : EvL te σ H (bs.map V.bl)) : Ev (tCB (rAll K) (tCons te tNil)) σ H (.bl (bs.all id)) := fun H1 e Q q => h H1 e _ fun p H2 hp e2 h2 => ⟨p, bs, rfl, SqL.of h2, q H2 e2⟩
theorem ev_lenT {p : Addr} {xs : List V} (ha : Ev te σ H (.ref p)) (h : H p = some (.tup xs)) : Ev (tCB (rLenQ K) (tCons te tNil)) σ H (.int (xs.length : Int)) := fun H1 e Q q =>
  ha H1 e _ fun H2 e2 => ⟨p, xs, rfl, .inr (SqT.of ((e.trans e2) _ _ h)), q H2 e2⟩
/-- [e for k in range(n)], known for each k -/
theorem el_mapR {ta : TA} {j : Nat} {vs : List Nat} {ys : List V} (h : EvA ta σ H [.int (ys.length : Int)]) (hn : ys.length ≤ 40000) (hw : ∀ x, wipe ((wipe σ vs).set j (some x)) vs = wipe σ vs)
    (he : ∀ (i : Nat) (y : V) H1, Ex H H1 → ys[i]? = some y → Ev te ((wipe σ vs).set j (some (.int (i : Int)))) H1 y) : EvL (tLc (iRng1 ta) (gName j) tYes te vs) σ H ys := by
  have k := el_lcR1 (t := tYes) (te := te) (fun _ => true) (fun i => ys.getD i .non) h (by omega) hw (fun i H1 e hi => fun H1 _ _ q => q H1 (Ex.refl H1)) (fun i H1 e hi _ => by
    have h2 : i < ys.length := by omega
    rw [show ys.getD i .non = ys[i] by rw [List.getD_eq_getElem?_getD, List.getElem?_eq_getElem h2]; rfl]
    exact he i _ H1 e (List.getElem?_eq_getElem h2))
  rw [Int.toNat_natCast, given_allF] at k
  exact k
/-- xs[i], xs a list or a tuple -/
theorem ev_ixq {tk : TE} {p : Addr} {xs : List V} {i : Nat} {v : V} (h : H p = some (.lst xs) ∨ H p = some (.tup xs)) (ha : Ev te σ H (.ref p)) (hk : Ev tk σ H (.int (i : Int))) (hi : xs[i]? = some v) : Ev (tEi (tOp (rIxL K) te tk) (tOp (rIxT K) te tk)) σ H v := by
  rcases h with h | h
  · exact ev_l (ev_op ha hk (rv_ixL (SqL.of h) (atI_nat hi)))
  · exact ev_r (ev_op ha hk (rv_ixT (SqT.of h) (atI_nat hi)))
theorem ev_lenA {p : Addr} {xs : List V} (ha : Ev te σ H (.ref p)) (h : H p = some (.lst xs) ∨ H p = some (.tup xs)) : Ev (tCB (rLenQ K) (tCons te tNil)) σ H (.int (xs.length : Int)) := h.elim (ev_lenQ ha) (ev_lenT ha)
end
section
variable {K : PySem.W.Frag} {σ : L2.St} {H : Hp} {ta tb te : TE}
theorem ev_fld {f : Str} {p C dx : Addr} {fs : List (Str × V)} {v : V} (ha : Ev te σ H (.ref p)) (h : H p = some (.ins C dx fs)) (cl : Cls K C) (nf : PySem.W.findIn K (.ref C) f = some none) (lk : fs.lookup f = some v) : Ev (tFld K te f) σ H v := fun H1 e Q q =>
  ha H1 e _ fun H2 e2 => ⟨p, C, dx, fs, v, rfl, (e.trans e2) _ _ h, cl, nf, lk, q H2 e2⟩
theorem EvU.mono {H' : Hp} {xs : List V} (e : Ex H H') (h : EvU te σ H xs) : EvU te σ H' xs := fun H1 a Q q => h H1 (e.trans a) Q q
theorem eu_sl {tl th : TO} {a : Addr} {xs : List V} {lo hi : Option Int} (h : Ev te σ H (.ref a)) (h1 : EvO tl σ H lo) (h2 : EvO th σ H hi) (hs : H a = some (.tup xs)) (hw : ¬ (HT.sIx xs.length 0 lo = 0 ∧ HT.sIx xs.length xs.length hi = xs.length)) : EvU (tSl (rSlT K) te tl th) σ H (cutV xs lo hi) := fun H1 e Q q =>
  h H1 e _ fun H2 e2 => h1 H2 (e.trans e2) _ fun H3 e3 => h2 H3 ((e.trans e2).trans e3) _ fun H4 e4 => ⟨a, xs, rfl, SqT.of ((((e.trans e2).trans e3).trans e4) _ _ hs), hw, fun p hp => q p _ (fresh_back ((e2.trans e3).trans e4) hp) (((e2.trans e3).trans e4).trans (Ex.new hp)) upd_same⟩
theorem eu_back {a : Addr} {xs : List V} (h : Ev te σ H (.ref a)) (hs : H a = some (.tup xs)) : EvU (tBackT K te) σ H (xs.drop 1).reverse := fun H1 e Q q =>
  h H1 e _ fun H2 e2 => ⟨a, xs, rfl, SqT.of ((e.trans e2) _ _ hs), fun p hp => q p _ (fresh_back e2 hp) (e2.trans (Ex.new hp)) upd_same⟩
theorem eu_cat {xs ys : List V} (h1 : EvU ta σ H xs) (h2 : EvU tb σ H ys) (hx : xs ≠ []) (hl : xs.length + ys.length ≤ 1000) : EvU (tOp (rCatT K) ta tb) σ H (xs ++ ys) := fun H1 e Q q =>
  h1 H1 e _ fun p H2 hp e2 hxs => h2 H2 (e.trans e2) _ fun r H3 hr e3 hys => ⟨p, r, xs, ys, rfl, rfl, SqT.of (e3 _ _ hxs), SqT.of hys, hx, Nat.le_trans hl (by decide), (fun z => by
    subst z
    rw [List.append_nil] at q
    exact q p H3 hp (e2.trans e3) (e3 _ _ hxs)), fun _ t ht => q t _ (fresh_back (e2.trans e3) ht) ((e2.trans e3).trans (Ex.new ht)) upd_same⟩
theorem eu_if {t : TT} {b : Bool} {xs : List V} (h : EvT t σ H b) (h1 : b = true → EvU ta σ H xs) (h2 : b = false → EvU tb σ H xs) : EvU (tIf t ta tb) σ H xs := fun H1 e Q q => h H1 e _ fun H2 e2 => by
  cases b with
  | true => exact iteT (h1 rfl H2 (e.trans e2) Q fun p H3 hp e3 hx => q p H3 (fresh_back e2 hp) (e2.trans e3) hx)
  | false => exact iteF (h2 rfl H2 (e.trans e2) Q fun p H3 hp e3 hx => q p H3 (fresh_back e2 hp) (e2.trans e3) hx)
theorem eu_is {xs ys : List V} (h : EvU te σ H xs) (e : xs = ys) : EvU te σ H ys := by rw [← e]; exact h
end
/-! ### a value that is such data -/
def EvQ (te : TE) (σ : L2.St) (H : Hp) (d : PyData) : Prop := ∀ H1, Ex H H1 → ∀ Q : VK, (∀ v H2, Ex H1 H2 → Dq H2 v d → Q v H2) → te σ H1 Q
def EvQA (ta : TA) (σ : L2.St) (H : Hp) (ds : List PyData) : Prop := ∀ H1, Ex H H1 → ∀ Q : List V → Hp → Prop, (∀ vs H2, Ex H1 H2 → DqAll H2 vs ds → Q vs H2) → ta σ H1 Q
section
variable {K : PySem.W.Frag} {σ : L2.St} {H : Hp} {ta tb te : TE} {d : PyData}
theorem ed_ev {v : V} (h : Ev te σ H v) (hd : Dq H v d) : EvQ te σ H d := fun H1 e Q q => h H1 e Q fun H2 e2 => q v H2 e2 (hd.ext (e.trans e2))
theorem ed_tup {xs : List V} {ds : List PyData} (h : EvU te σ H xs) (hd : DqAll H xs ds) : EvQ te σ H (.tuple ds) := fun H1 e Q q => h H1 e Q fun p H2 hp e2 h2 => q _ H2 e2 (.tup h2 (hd.ext (e.trans e2)))
theorem ed_list {xs : List V} {ds : List PyData} (h : EvL te σ H xs) (hd : DqAll H xs ds) : EvQ te σ H (.list ds) := fun H1 e Q q => h H1 e Q fun p H2 hp e2 h2 => q _ H2 e2 (.lst h2 (hd.ext (e.trans e2)))
theorem EvQ.mono {H' : Hp} (e : Ex H H') (h : EvQ te σ H d) : EvQ te σ H' d := fun H1 a Q q => h H1 (e.trans a) Q q
theorem eda_nil : EvQA tNil σ H [] := fun H1 _ _ q => q _ H1 (Ex.refl H1) .nil
theorem eda_cons {tr : TA} {ds : List PyData} (h : EvQ te σ H d) (hr : EvQA tr σ H ds) : EvQA (tCons te tr) σ H (d :: ds) := fun H1 e Q q =>
  h H1 e _ fun v H2 e2 hv => hr H2 (e.trans e2) _ fun vs H3 e3 hs => q _ H3 (e2.trans e3) (.cons (hv.ext e3) hs)
theorem ed_lst {tr : TA} {ds : List PyData} (h : EvQA tr σ H ds) (hl : ds.length ≤ 1000) : EvQ (tLst tr) σ H (.list ds) := fun H1 e Q q =>
  h H1 e _ fun vs H2 e2 hs => ⟨by rw [hs.len]; exact Nat.le_trans hl (by decide), fun p hp => q _ _ (e2.trans (Ex.new hp)) (.lst upd_same (hs.ext (Ex.new hp)))⟩
theorem ed_tp {tr : TA} {ds : List PyData} (h : EvQA tr σ H ds) (hl : ds.length ≤ 1000) : EvQ (tTup tr) σ H (.tuple ds) := fun H1 e Q q =>
  h H1 e _ fun vs H2 e2 hs => ⟨by rw [hs.len]; exact Nat.le_trans hl (by decide), fun p hp => q _ _ (e2.trans (Ex.new hp)) (.tup upd_same (hs.ext (Ex.new hp)))⟩
theorem ed_is {d' : PyData} (h : EvQ te σ H d) (e : d = d') : EvQ te σ H d' := by rw [← e]; exact h
/-- [x] * k, x a truth -/
theorem ed_repB {b : Bool} {k : Nat} (h : Ev te σ H (.bl b)) (hk : k ≤ 1000) : EvQ (tOp rRep (tLst (tCons te tNil)) (tC (.int (k : Int)))) σ H (.list (List.replicate k (.bool b))) := fun H1 e Q q =>
  h H1 e _ fun H2 e2 => ⟨by show 1 ≤ sizeLine; decide, fun p hp => ⟨p, k, [.bl b], rfl, rfl, upd_same, by omega, by omega, by
    rw [Int.toNat_natCast]
    show 1 * k ≤ sizeLine
    exact Nat.le_trans (by omega : 1 * k ≤ 1000) (by decide), fun r hr => by
    rw [Int.toNat_natCast]
    refine q _ _ ((e2.trans (Ex.new hp)).trans (Ex.new hr)) (.lst upd_same ?_)
    induction k with
    | zero => exact .nil
    | succ n ih => 
      have z : ∀ m, DqAll (upd (upd H2 p (.lst [.bl b])) r (.lst (List.replicate (n + 1) [V.bl b]).flatten)) (List.replicate m [V.bl b]).flatten (List.replicate m (.bool b)) := by
        intro m
        induction m with
        | zero => exact .nil
        | succ m ih => exact .cons (.bl b) ih
      exact z (n + 1)⟩⟩
theorem ev_alike {k : Nat} (ha : EvQ ta σ H d) (hb : EvQ tb σ H d) (hk : alk k d = true) : Ev (tCall (sp_alike k) [] E0 (tCons ta (tCons tb tNil))) σ H (.bl true) := fun H1 e Q q =>
  ha H1 e _ fun v H2 e2 hv => hb H2 (e.trans e2) _ fun u H3 e3 hu => ⟨v, u, d, rfl, hv.ext e3, hu, hk, fun H4 e4 => q H4 ((e2.trans e3).trans e4)⟩
end
end MyG

set_option maxHeartbeats 1000000
/-! dict comprehensions whose keys may be tuples, with one clause and with two; walks of the values and the items of dicts with tuple keys -/
namespace L2
open PySem PySem.Spec PyProof.Rows
theorem tupleKind_room {P : Program} {w : World} {A : Around} (hu : A.units < cLine) : (tupleKind (mixKind P w)).room A := hu
section
variable {X : Cx} {pins : List (Addr × Obj)} {σ : St} {H H' : Hp} {s : Shared} {E : Value → Shared → Prop} {D : Addr} {y v : V} {u r : Value} {Q : Unit → Shared → Prop}
/-- a comprehension's store, whatever the dict's keys are -/
theorem d_dictSetG (hu : X.A.units < cLine) (I : Inv X pins σ H s) (g : DPut H D y v H') (ry : RelV y u) (rv : RelV v r) (h : ∀ s', Inv X pins σ H' s' → Q () s') : wpAny (model X.prog X.w) X.A (dictSet D u r) Q E s := by
  rcases g with ⟨kvs, k, e, rfl, l, rfl⟩ | ⟨kvs, k, b, e, rfl, eb, l, rfl⟩
  · exact d_dictSet I e l ry rv h
  · cases (show u = Value.ref b from ry)
    obtain ⟨z, nsys, xs, rel, dd⟩ := dt_of I.hok e
    have few : xs.length ≤ sizeLine := by rw [← Paired.length rel]; exact z
    refine wpAny_dictSet_heap (hsz := few) (tupleKind_room hu) (key_of I.hok eb) dd fun h' dd' same => h _ ?_
    obtain ⟨q, es, ep, hq, c2, c3, c4, _, c5⟩ := dd'
    refine d_write I (by rw [e]; exact True.intro) same ⟨q, hq⟩ ⟨?_, nsys, _, (rel.put k eb rv).keeps fun c ys ec => ?_, q, es, ep, hq, c2, c3, c4, c5⟩
    · have := length_putK kvs k v
      omega
    · rw [upd_ne (ne_of ec e (fun z => nomatch z))]
      exact ec
end
/-- an empty dict, its keys to be single (false) or tuples (true) -/
def dE : Bool → HO | false => .dK [] | true => .dT []
theorem dE_ok {P : Program} {w : World} {H : Hp} (k : Bool) (h : Heap) (hb : sysModules < h.objs.size) : ObjOk P w H (h.push { cls := .type "dict", data := .dict #[] }) h.objs.size (dE k) := by
  cases k with
  | false => exact dk_empty h hb
  | true => exact dt_empty h hb

/-! ### the turns of a dict comprehension with two clauses -/
section
variable (kx vx t0 i0 t1 i1 : Expr) (f0 f1 : List Expr) (sc : Scope) (pos : Pos) (it : Value) (D : Addr) (env : Env)
/-- {kx: vx for t0 in i0 if .. for t1 in i1 if ..} -/
abbrev dX2 : Expr := .DictComp kx vx [⟨t0, i0, f0, 0⟩, ⟨t1, i1, f1, 0⟩] sc pos
theorem dX2_turn0 : compTurn (dX2 kx vx t0 i0 t1 i1 f0 f1 sc pos) 0 it (.ref D) env = (do
    standAt i0.pos
    match ← pyNext it with
    | none => pure (.done .next)
    | some v =>
      letOwnedTupleGo t0 it v
      assign t0 env v
      let mut good := true
      for c in f0 do
        if good then good ← isTrue c env (eval c env)
      if good then
        let x ← eval i1 env
        standAt i1.pos
        let x ← foldedSetIterable i1 env x
        let _ ← runOwn (.compStart (dX2 kx vx t0 i0 t1 i1 f0 f1 sc pos) 1 (← holding [x] (pyIter x)) (.ref D) env) env
      again (.compLoop (dX2 kx vx t0 i0 t1 i1 f0 f1 sc pos) 0 it (.ref D) env)) := by rfl
theorem dX2_turn1 : compTurn (dX2 kx vx t0 i0 t1 i1 f0 f1 sc pos) 1 it (.ref D) env = (do
    standAt i1.pos
    match ← pyNext it with
    | none => pure (.done .next)
    | some v =>
      letOwnedTupleGo t1 it v
      assign t1 env v
      let mut good := true
      for c in f1 do
        if good then good ← isTrue c env (eval c env)
      if good then
        (do
          let a ← eval kx env
          let b ← holding [a] (eval vx env)
          standAt { kx.pos with endLine := vx.pos.endLine, endCol := vx.pos.endCol }
          holding [a, b] (dictSet D a b))
      again (.compLoop (dX2 kx vx t0 i0 t1 i1 f0 f1 sc pos) 1 it (.ref D) env)) := by rfl
end

section
variable {prog : Program} {w : World} {A : Around} {R : Result → Shared → Prop} {kx vx t0 i0 t1 i1 : Expr} {f0 f1 : List Expr} {sc : Scope} {pos : Pos} {it : Value} {D : Addr} {env : Env}
/-- where a step of a comprehension ends badly: nowhere -/
abbrev bad (prog : Program) (w : World) (A : Around) (env : Env) (R : Result → Shared → Prop) : Value → Shared → Prop := notedBy (model prog w) A env fun e s' => R (.error e) s'
/-- a clause's tests -/
abbrev tests (fs : List Expr) (env : Env) : Sem Bool := forIn fs true fun c r => if r = true then do let ok ← isTrue c env (eval c env); pure (ForInStep.yield ok) else pure (ForInStep.yield r)
theorem dX2_loop0 (fld : ∀ x, foldedSetIterable i1 env x = pure x) (I : Nat → Shared → Prop)
    (turn : ∀ n s, I n s → wpAny (model prog w) A (pyNext it) (fun r s1 => match r with
      | none => R (.ok .next) s1
      | some v => wpAny (model prog w) A (letOwnedTupleGo t0 it v) (fun _ s2 => wpAny (model prog w) A (assign t0 env v) (fun _ s3 => wpAny (model prog w) A (tests f0 env) (fun ok s4 =>
            if ok = true then wpAny (model prog w) A (eval i1 env) (fun x s5 => wpAny (model prog w) A (pyIter x) (fun jt s6 =>
              codeAny (model prog w) A (.compStart (dX2 kx vx t0 i0 t1 i1 f0 f1 sc pos) 1 jt (.ref D) env) (fun r s' => match r with
                | .ok _ => ∃ m, m < n ∧ I m s'
                | .error _ => False) s6) (bad prog w A env R) s5) (bad prog w A env R) s4
            else ∃ m, m < n ∧ I m s4) (bad prog w A env R) s3) (bad prog w A env R) s2) (bad prog w A env R) s1) (bad prog w A env R) s)
    (n : Nat) {s : Shared} (h : I n s) : codeAny (model prog w) A (.compLoop (dX2 kx vx t0 i0 t1 i1 f0 f1 sc pos) 0 it (.ref D) env) R s := by
  refine codeAny_loop rfl I (fun n s hI => ?_) n h
  show wpAny _ A ((compTurn (dX2 kx vx t0 i0 t1 i1 f0 f1 sc pos) 0 it (.ref D) env).onRaise (fun x => do noteFrame x env; theTreesLotGoes x)) _ _ s
  refine wpAny_noted ?_
  rw [dX2_turn0]
  refine wpAny_bind (wpAny_standAt (wpAny_bind (wpAny_mono (turn n s hI) (fun r s1 k1 => ?_) fun _ _ z => z)))
  cases r with
  | none => exact wpAny_pure k1
  | some v =>
    refine wpAny_bind (wpAny_mono k1 (fun _ s2 k2 => wpAny_bind (wpAny_mono k2 (fun _ s3 k3 => wpAny_bind (wpAny_mono k3 (fun ok s4 k4 => ?_) fun _ _ z => z)) fun _ _ z => z)) fun _ _ z => z)
    cases ok with
    | false => exact wpAny_pure ⟨rfl, k4⟩
    | true =>
      refine wpAny_bind (wpAny_mono k4 (fun x s5 k5 => ?_) fun _ _ z => z)
      refine wpAny_bind (wpAny_standAt (wpAny_bind (wpAny_of_eq (fld x) (wpAny_bind (wpAny_holding (wpAny_mono k5 (fun jt s6 k6 => ?_) fun _ _ z => z))))))
      refine wpAny_bind (wpAny_runOwn ?_)
      rw [Around.mark_none]
      refine codeAny_mono k6 fun r s' hr => ?_
      cases r with
      | ok f => first | exact wpAny_pure ⟨rfl, hr⟩ | exact wpAny_bind (wpAny_pure (wpAny_pure ⟨rfl, hr⟩))
      | error e => exact hr.elim
theorem dX2_loop1 (I : Nat → Shared → Prop)
    (turn : ∀ n s, I n s → wpAny (model prog w) A (pyNext it) (fun r s1 => match r with
      | none => R (.ok .next) s1
      | some v => wpAny (model prog w) A (letOwnedTupleGo t1 it v) (fun _ s2 => wpAny (model prog w) A (assign t1 env v) (fun _ s3 => wpAny (model prog w) A (tests f1 env) (fun ok s4 =>
            if ok = true then wpAny (model prog w) A (eval kx env) (fun a s5 => wpAny (model prog w) A (eval vx env) (fun b s6 =>
              wpAny (model prog w) A (dictSet D a b) (fun _ s7 => ∃ m, m < n ∧ I m s7) (bad prog w A env R) s6) (bad prog w A env R) s5) (bad prog w A env R) s4
            else ∃ m, m < n ∧ I m s4) (bad prog w A env R) s3) (bad prog w A env R) s2) (bad prog w A env R) s1) (bad prog w A env R) s)
    (n : Nat) {s : Shared} (h : I n s) : codeAny (model prog w) A (.compLoop (dX2 kx vx t0 i0 t1 i1 f0 f1 sc pos) 1 it (.ref D) env) R s := by
  refine codeAny_loop rfl I (fun n s hI => ?_) n h
  show wpAny _ A ((compTurn (dX2 kx vx t0 i0 t1 i1 f0 f1 sc pos) 1 it (.ref D) env).onRaise (fun x => do noteFrame x env; theTreesLotGoes x)) _ _ s
  refine wpAny_noted ?_
  rw [dX2_turn1]
  refine wpAny_bind (wpAny_standAt (wpAny_bind (wpAny_mono (turn n s hI) (fun r s1 k1 => ?_) fun _ _ z => z)))
  cases r with
  | none => exact wpAny_pure k1
  | some v =>
    refine wpAny_bind (wpAny_mono k1 (fun _ s2 k2 => wpAny_bind (wpAny_mono k2 (fun _ s3 k3 => wpAny_bind (wpAny_mono k3 (fun ok s4 k4 => ?_) fun _ _ z => z)) fun _ _ z => z)) fun _ _ z => z)
    cases ok with
    | false => exact wpAny_pure ⟨rfl, k4⟩
    | true => exact wpAny_bind (wpAny_bind (wpAny_mono k4 (fun a s5 k5 => wpAny_bind (wpAny_holding (wpAny_mono k5 (fun b s6 k6 => wpAny_bind (wpAny_standAt (wpAny_holding (wpAny_mono k6 (fun _ s7 k7 => wpAny_pure ⟨rfl, k7⟩) fun _ _ z => z)))) fun _ _ z => z))) fun _ _ z => z))
/-- a clause's start -/
theorem dX2_start {d : Nat} (hg : d = 0 ∨ d = 1) {s : Shared} (h0 : codeAny (model prog w) A (.compLoop (dX2 kx vx t0 i0 t1 i1 f0 f1 sc pos) d it (.ref D) env) R s)
    (h : wpAny (model prog w) A (pyIter it) (fun jt s' => codeAny (model prog w) A (.compLoop (dX2 kx vx t0 i0 t1 i1 f0 f1 sc pos) d jt (.ref D) env) R s') (bad prog w A env R) s) :
    codeAny (model prog w) A (.compStart (dX2 kx vx t0 i0 t1 i1 f0 f1 sc pos) d it (.ref D) env) R s := by
  refine codeAny_of_tree ?_
  show wpAny _ _ ((compStart (dX2 kx vx t0 i0 t1 i1 f0 f1 sc pos) d it (.ref D) env).onRaise (fun x => do noteFrame x env; standAt theWindowsPlace)) _ _ s
  refine wpAny_notedAt ?_
  unfold compStart
  rcases hg with rfl | rfl <;>
  · show wpAny _ _ (ask >>= _) _ _ s
    refine wpAny_bind (wpAny_askSetting (wpAny_ite ?_))
    split
    · first | exact wpAny_bind (wpAny_pure (wpAny_pure (And.intro rfl h0))) | exact wpAny_pure (And.intro rfl h0)
    · first
        | exact wpAny_bind (wpAny_rule (wpAny_bind (wpAny_standAt (wpAny_bind (wpAny_mono h (fun _ _ k => wpAny_pure (And.intro rfl k)) fun _ _ z => z)))))
        | (refine wpAny_bind (wpAny_rule ?_); show wpAny _ _ (standAt i0.pos >>= _) _ _ s; exact wpAny_bind (wpAny_standAt (wpAny_bind (wpAny_mono h (fun _ _ k => wpAny_pure (And.intro rfl k)) fun _ _ z => z))))
        | (refine wpAny_bind (wpAny_rule ?_); show wpAny _ _ (standAt i1.pos >>= _) _ _ s; exact wpAny_bind (wpAny_standAt (wpAny_bind (wpAny_mono h (fun _ _ k => wpAny_pure (And.intro rfl k)) fun _ _ z => z))))
end

/-- what a block's part must be, whatever the block's frame is -/
abbrev InBlk (X : Cx) (scope : Scope) (p : Cx → Prop) : Prop := ∀ (s : Shared) (H : Hp) (C : Addr) (cl : List (Str × Addr)) (fp : List Addr), p (X.blk s H scope (compEnvC scope cl C X.env) fp)
/-- the walk of a clause: it stops, or a turn is made -/
def wlk (J : It) (g : TG) (σ0 : St) (vs : List Nat) (tt : TT) (ready : Hp → Prop) (body : (Hp → Prop) → St → Hp → Prop) (H0 : Hp) : Prop := ∃ W : Nat → Nat → Hp → Prop, (∃ m, W 0 m H0) ∧ ∀ i m H, W i m H →
  (J.stop i H ∧ ready H) ∨ (J.go i H ∧ ∃ Nx : Hp → Prop, (∀ H', Nx H' → ∃ m', m' < m ∧ W (i + 1) m' H') ∧ ∀ x H', J.yld i H x H' → g x (wipe σ0 vs) H' fun σ2 H2 => wipe σ2 vs = wipe σ0 vs ∧ tt σ2 H2 fun b H3 => if b = true then body Nx σ2 H3 else Nx H3)
/-- the store of a turn -/
def dSto (D : Addr) (tk tv : TE) : (Hp → Prop) → St → Hp → Prop := fun Nx σ H => tk σ H fun y H4 => tv σ H4 fun z H5 => ∃ H6, DPut H5 D y z H6 ∧ Nx H6
/-- {k: v for target in iter if ..}: D the new dict, of the kind wanted -/
def tDcG (kd : Bool) (wi : TI) (g : TG) (tt : TT) (tk tv : TE) (vs : List Nat) : TE := fun σ H Q => wi σ H fun J H1 => ∀ D, H1 D = none → wlk J g σ vs tt (Q (.ref D)) (dSto D tk tv) (upd H1 D (dE kd))
/-- .. with two clauses -/
def tDc2G (kd : Bool) (wi : TI) (g : TG) (tt : TT) (wj : TI) (g1 : TG) (tt1 : TT) (tk tv : TE) (vs vs1 : List Nat) : TE := fun σ H Q => wi σ H fun J H1 => ∀ D, H1 D = none →
  wlk J g σ vs tt (Q (.ref D)) (fun Nx σ2 H3 => wj σ2 H3 fun J1 H4 => wlk J1 g1 σ2 vs1 tt1 Nx (dSto D tk tv) H4) (upd H1 D (dE kd))
section
variable {X : Cx} {tg iter : Expr} {ifs : List Expr} {scope : Scope} {own : List (Str × Nat)} {wi : TI} {g : TG} {tt : TT} {tk tv : TE} {kx vx : Expr} {pos pos' : Pos} {pins : List (Addr × Obj)} {s : Shared} {σ : St} {H : Hp} {Q : VK} {Qf : Value → Shared → Prop} {use : Option (Value → Sem Unit)} {kd : Bool}
/-- a dict comprehension's frame: what its first clause's loop must do, and what is given to it -/
theorem d_frame {rest : List Comprehension} {L : It → Addr → Hp → Prop} (hc : X.calm = true) (hN : X.N.Nodup) (I : Inv X pins σ H s) (hi : PI X tg iter wi) (ok : BlkOk X.N X.env.scope scope own) (hs : ∀ x, foldedSetIterable iter X.env x = pure x)
    (h : wi σ H fun J H1 => ∀ D, H1 D = none → L J D (upd H1 D (dE kd)))
    (hRR : ∀ D C s' m H', Inv X pins σ H' s' → Q (.ref D) H' → s'.heap.Ns C m → FpOk X pins H' C → compPost (model X.prog X.w) X.A X.xe use Qf (.ref D) C (.ok .next) s')
    (hL : ∀ (J : It) (D it C : Addr) (cl : List (Str × Addr)) (fp : List Addr) (tn : Nat → Heap → Prop) (s3 s4 : Shared) (H3 : Hp), Turn X.prog X.w X.K tg J fp it tn → L J D H3 → Inv (X.blk s3 H3 scope (compEnvC scope cl C X.env) fp) [] (wipe σ (own.map (·.2))) H3 s4 → tn 0 s4.heap → (∀ b ∈ fp, H3 b = none) →
      (∀ s6 H5, Inv (X.blk s3 H3 scope (compEnvC scope cl C X.env) fp) [] (wipe σ (own.map (·.2))) H5 s6 → Q (.ref D) H5 → compPost (model X.prog X.w) X.A X.xe use Qf (.ref D) C (.ok .next) s6) →
      codeAny (model X.prog X.w) X.A (.compLoop (.DictComp kx vx (⟨tg, iter, ifs, 0⟩ :: rest) scope pos) 0 (.ref it) (.ref D) (compEnvC scope cl C X.env)) (compPost (model X.prog X.w) X.A X.xe use Qf (.ref D) C) s4) :
    wpAny (model X.prog X.w) X.A (comprehension (.DictComp kx vx (⟨tg, iter, ifs, 0⟩ :: rest) scope pos) scope X.env pos' newDict false (eval iter X.env) use) Qf X.xe s := by
  have free : ∀ y ∈ scope.names, y.2 = .free → ∃ c, X.env.cells.lookup y.1 = some c := fun y hy e => I.ok.has _ (ok.free y hy e)
  refine wpAny_comprehension_free (use := use) rfl hs (closure_ok free) ok.kind (fun y hy e => by rw [ok.uniq y hy, e]) (thn (hi.run pins s σ H _ I h) fun xv s1 hx => thn hx fun itv s2 k2 => ?_)
  obtain ⟨it, fp, tn, J, H2, rfl, I2, T, st2, f2, q⟩ := k2
  refine wpAny_newObj_type (newEnv_comp ?_)
  generalize hD : s2.heap.objs.size = D
  have Dn : H2 D = none := I2.hok.fresh (Nat.le_of_eq hD)
  have l0 := q D Dn
  generalize e3 : ({ s2 with heap := s2.heap.push { cls := .type "dict", data := .dict #[] } } : Shared) = s3
  have I3 : Inv X pins σ (upd H2 D (dE kd)) s3 := by
    subst e3 hD
    exact I2.laid (t' := s2.toks) (fun b o e => Heap.get?_push_of_some _ e) (Nat.le_refl _) (dE_ok kd s2.heap I2.big)
  have hp3 : s3.heap = s2.heap.push { cls := .type "dict", data := .dict #[] } := by rw [← e3]
  have f3 : ∀ b ∈ fp, FpOk X pins (upd H2 D (dE kd)) b ∧ b < s3.heap.objs.size := fun b hb => by
    obtain ⟨o, e, _⟩ := T.obj _ _ st2 b hb
    have lt := Heap.lt_size e
    refine ⟨⟨?_, (f2 b hb).2⟩, by rw [hp3, Heap.size_push]; exact Nat.lt_succ_of_lt lt⟩
    rw [upd_ne (by rw [← hD]; exact Nat.ne_of_lt lt)]
    exact (f2 b hb).1
  have st3 : tn 0 s3.heap := T.keep _ _ _ st2 fun b _ o e => by rw [hp3]; exact Heap.get?_push_of_some _ e
  have I4 := block_start I3 ok hN f3
  show codeAny _ _ (.compStart _ 0 (.ref it) (.ref D) (compEnvC scope (cellsFrom (s3.heap.objs.size + 1) scope.names (cloFrom X.env.cells scope.names [])) s3.heap.objs.size X.env)) (compPost (model X.prog X.w) X.A X.xe use Qf (.ref D) s3.heap.objs.size) { s3 with heap := pushCells (s3.heap.push { cls := .type "dict", data := .dict #[] }) scope.names }
  generalize e4 : ({ s3 with heap := pushCells (s3.heap.push { cls := .type "dict", data := .dict #[] }) scope.names } : Shared) = s4 at I4 ⊢
  have st4 : tn 0 s4.heap := T.keep _ _ _ st3 fun b _ o e => by rw [← e4]; exact pushCells_keeps _ _ _ _ (Heap.get?_push_of_some _ e)
  have loop := hL J D it s3.heap.objs.size (cellsFrom (s3.heap.objs.size + 1) scope.names (cloFrom X.env.cells scope.names [])) fp tn s3 s4 (upd H2 D (dE kd)) T l0 I4 st4 (fun b hb => (f3 b hb).1.1) fun s6 H5 I6 qq => by
    have I7 : Inv X pins σ H5 s6 := I3.call' (ch := fp) I6.os I6.base I6.hok I6.bare fun b hb => ⟨(f3 b hb).1.2.2.2.1, (f3 b hb).1.2.1, (f3 b hb).1.2.2.2.2.1, (f3 b hb).1.2.2.2.2.2⟩
    have nC : H5 s3.heap.objs.size = none := I6.free
    obtain ⟨m, hn, _⟩ := I6.loc
    exact hRR D s3.heap.objs.size s6 m H5 I7 qq hn (I3.fpOk (Nat.le_refl _) nC)
  exact codeAny_compStart_dict loop (T.self X.A 0 _ _ _ st4 loop)
end

/-- one turn of a clause's loop, in the block -/
theorem turn_ok {Y : Cx} {tg : Expr} {ifs : List Expr} {P0 : List (Addr × Obj)} {J : It} {fp : List Addr} {it : Addr} {tn : Nat → Heap → Prop} {g : TG} {tt : TT} {vs : List Nat} {σ0 : St} {i : Nat} {s5 : Shared} {H5 : Hp} {ready : Hp → Prop} {body : St → Hp → Prop} {Nx : Hp → Prop} {Rn Bd Nn : Shared → Prop} {E : Value → Shared → Prop}
    (hx : Y.xe = fun _ _ => False) (hc : Y.calm = true) (T : Turn Y.prog Y.w Y.K tg J fp it tn) (pg : PG Y tg g) (pt : PTs Y ifs tt) (hf : ∀ H', (∀ b ∈ fp, H' b = none) → ∀ b ∈ fp, FpOk Y P0 H' b)
    (I5 : Inv Y P0 (wipe σ0 vs) H5 s5) (st5 : tn i s5.heap) (n5 : ∀ b ∈ fp, H5 b = none)
    (step : (J.stop i H5 ∧ ready H5) ∨ (J.go i H5 ∧ ∀ x H', J.yld i H5 x H' → g x (wipe σ0 vs) H' fun σ2 H2 => wipe σ2 vs = wipe σ0 vs ∧ tt σ2 H2 fun b H3 => if b = true then body σ2 H3 else Nx H3))
    (hstop : ∀ s6, Inv Y P0 (wipe σ0 vs) H5 s6 → ready H5 → Rn s6)
    (hno : ∀ s' H', Inv Y P0 (wipe σ0 vs) H' s' → tn (i + 1) s'.heap → (∀ b ∈ fp, H' b = none) → Nx H' → Nn s')
    (hyes : ∀ (pl : List (Addr × Obj)) s9 σ8 H9, Inv Y (P0 ++ pl) σ8 H9 s9 → body σ8 H9 → wipe σ8 vs = wipe σ0 vs →
      (∀ σ9 s' H', Inv Y (P0 ++ pl) σ9 H' s' → (wipe σ0 vs).length = σ9.length → (∀ (j : Nat) v, (wipe σ0 vs)[j]? = some (some v) → σ9[j]? = some (some v)) → Inv Y P0 (wipe σ0 vs) H' s' ∧ tn (i + 1) s'.heap ∧ ∀ b ∈ fp, H' b = none) → Bd s9) :
    wpAny (model Y.prog Y.w) Y.A (pyNext (.ref it)) (fun r s1 => match r with
      | none => Rn s1
      | some v => wpAny (model Y.prog Y.w) Y.A (letOwnedTupleGo tg (.ref it) v) (fun _ s2 => wpAny (model Y.prog Y.w) Y.A (assign tg Y.env v) (fun _ s3 => wpAny (model Y.prog Y.w) Y.A (tests ifs Y.env) (fun ok s4 => if ok = true then Bd s4 else Nn s4) E s3) E s2) E s1) E s5 := by
  rcases step with ⟨stop, qq⟩ | ⟨go, step⟩
  · refine thnF (T.done Y rfl rfl rfl hc i P0 s5 _ H5 (fun _ _ => False) I5 (hf _ n5) st5 stop) fun r s6 ⟨hr, I6⟩ => ?_
    subst hr
    exact hstop s6 I6 qq
  · refine thnF (T.item Y rfl rfl rfl hc i P0 s5 _ H5 (fun _ _ => False) I5 (hf _ n5) st5 go) fun r s6 ⟨u, hr, k6⟩ => ?_
    subst hr
    refine thnF k6 fun _ s7 ⟨x, H7, I7, r7, y7, st7, n7⟩ => ?_
    have I7' := I7.pinned (hf _ n7) (T.obj _ _ st7)
    have asg := pg.run _ s7 _ H7 x u _ I7' r7 (step x H7 y7)
    rw [hx] at asg
    refine thnF asg fun _ s8 ⟨σ8, H8, I8, hw, q8⟩ => ?_
    have tst := pt.run _ s8 σ8 H8 _ I8 q8
    rw [hx] at tst
    refine thnF tst fun b s9 ⟨H9, I9, q9⟩ => ?_
    have back : ∀ σ9 s' H', Inv Y (P0 ++ pinsAt fp s7.heap) σ9 H' s' → (wipe σ0 vs).length = σ9.length → (∀ (j : Nat) v, (wipe σ0 vs)[j]? = some (some v) → σ9[j]? = some (some v)) → Inv Y P0 (wipe σ0 vs) H' s' ∧ tn (i + 1) s'.heap ∧ ∀ b ∈ fp, H' b = none := fun σ9 s' H' I' hl hk => by
      have pin : ∀ b ∈ fp, ∀ o, s7.heap.get? b = some o → s'.heap.get? b = some o ∧ H' b = none := fun b hb o e =>
        let z := I'.pin (b, o) (List.mem_append_right _ (List.mem_append_right _ (mem_pinsAt hb e)))
        ⟨z.1, z.2.1⟩
      refine ⟨I'.unpinned.weak hl hk, T.keep _ _ _ st7 fun b hb o e => (pin b hb o e).1, fun b hb => ?_⟩
      obtain ⟨o, e, _⟩ := T.obj _ _ st7 b hb
      exact (pin b hb o e).2
    have hl8 : (wipe σ0 vs).length = σ8.length := by rw [← hw, wipe_length]
    have hk8 : ∀ (j : Nat) v, (wipe σ0 vs)[j]? = some (some v) → σ8[j]? = some (some v) := fun j v e => by
      rw [← hw] at e
      exact (wipe_some e).1
    cases b with
    | false =>
      simp only [Bool.false_eq_true, if_false] at q9 ⊢
      obtain ⟨a1, a2, a3⟩ := back σ8 s9 H9 I9 hl8 hk8
      exact hno s9 H9 a1 a2 a3 q9
    | true =>
      simp only [if_true] at q9 ⊢
      exact hyes _ s9 σ8 H9 I9 q9 hw back
section
variable {X : Cx} {tg iter : Expr} {ifs : List Expr} {scope : Scope} {own : List (Str × Nat)} {wi : TI} {g : TG} {tt : TT} {tk tv : TE} {kx vx : Expr} {pos pos' : Pos} {pins : List (Addr × Obj)} {s : Shared} {σ : St} {H : Hp} {Q : VK} {Qf : Value → Shared → Prop} {use : Option (Value → Sem Unit)} {kd : Bool}
theorem dcG_core (hu : X.A.units < cLine) (hc : X.calm = true) (hN : X.N.Nodup) (I : Inv X pins σ H s) (hi : PI X tg iter wi) (ok : BlkOk X.N X.env.scope scope own) (hs : ∀ x, foldedSetIterable iter X.env x = pure x)
    (hg : InBlk X scope fun Y => PG Y tg g) (ht : InBlk X scope fun Y => PTs Y ifs tt) (hk : InBlk X scope fun Y => PE Y kx tk) (he : InBlk X scope fun Y => PE Y vx tv)
    (h : tDcG kd wi g tt tk tv (own.map (·.2)) σ H Q)
    (hRR : ∀ D C s' m H', Inv X pins σ H' s' → Q (.ref D) H' → s'.heap.Ns C m → FpOk X pins H' C → compPost (model X.prog X.w) X.A X.xe use Qf (.ref D) C (.ok .next) s') :
    wpAny (model X.prog X.w) X.A (comprehension (.DictComp kx vx [⟨tg, iter, ifs, 0⟩] scope pos) scope X.env pos' newDict false (eval iter X.env) use) Qf X.xe s := by
  refine d_frame (kd := kd) (L := fun (J : It) (D : Addr) (H3 : Hp) => wlk J g σ (own.map fun x : Str × Nat => x.2) tt (Q (.ref D)) (dSto D tk tv) H3) hc hN I hi ok hs h hRR fun J D it C cl fp tn s3 s4 H3 T l0 I4 st4 n4 fin => ?_
  obtain ⟨W, ⟨m0, w0⟩, turn⟩ := l0
  have hf : ∀ H', (∀ b ∈ fp, H' b = none) → ∀ b ∈ fp, FpOk (X.blk s3 H3 scope (compEnvC scope cl C X.env) fp) [] H' b := fun H' hn b hb =>
    ⟨hn b hb, (I4.ok.exf b hb).1, I4.ok.exfs b hb, .inl hb, fun x c e => (I4.ok.exf b hb).2 x c e, fun p hp => absurd (show p ∈ ([] : List (Addr × Obj)) ++ [] from hp) (by simp)⟩
  refine compLoop_anyD (fun n s' => ∃ i H', Inv (X.blk s3 H3 scope (compEnvC scope cl C X.env) fp) [] (wipe σ (own.map (·.2))) H' s' ∧ tn i s'.heap ∧ (∀ b ∈ fp, H' b = none) ∧ W i n H') ?_ m0 ⟨0, H3, I4, st4, n4, w0⟩
  rintro n s5 ⟨i, H5, I5, st5, n5, w5⟩
  have alt := turn i n H5 w5
  rcases alt with ⟨stop, qq⟩ | ⟨go, Nx, hNx, step⟩
  · exact turn_ok (Y := X.blk s3 H3 scope (compEnvC scope cl C X.env) fp) (ready := Q (.ref D)) (body := fun _ _ => False) (Nx := fun _ => False) rfl hc T (hg ..) (ht ..) hf I5 st5 n5 (.inl ⟨stop, qq⟩) (fun s6 I6 q => fin s6 H5 I6 q) (fun _ _ _ _ _ z => z.elim) (fun _ _ _ _ _ z => z.elim)
  · refine turn_ok (Y := X.blk s3 H3 scope (compEnvC scope cl C X.env) fp) (ready := fun _ => False) (body := dSto D tk tv Nx) (Nx := Nx) rfl hc T (hg ..) (ht ..) hf I5 st5 n5 (.inr ⟨go, step⟩) (fun _ _ z => z.elim) (fun s' H' a1 a2 a3 nx => ?_) (fun pl s9 σ8 H9 I9 q9 hw back => ?_)
    · obtain ⟨m, hm, w'⟩ := hNx H' nx
      exact ⟨m, hm, i + 1, H', a1, a2, a3, w'⟩
    · refine thnF ((hk ..).run _ s9 σ8 H9 _ I9 q9) fun a s10 ⟨ya, H10, I10, r10, q10⟩ => ?_
      refine thnF ((he ..).run _ s10 σ8 H10 _ I10 q10) fun b s11 ⟨yb, H11, I11, r11, H12, put, nx⟩ => ?_
      refine d_dictSetG (X := X.blk s3 H3 scope (compEnvC scope cl C X.env) fp) hu I11 put r10 r11 fun s12 I12 => ?_
      obtain ⟨m, hm, w'⟩ := hNx H12 nx
      obtain ⟨a1, a2, a3⟩ := back σ8 s12 H12 I12 (by rw [← hw, wipe_length]) fun j v e => by
        rw [← hw] at e
        exact (wipe_some e).1
      exact ⟨m, hm, i + 1, H12, a1, a2, a3, w'⟩
theorem dc2G_core {tg1 iter1 : Expr} {ifs1 : List Expr} {vs1 : List Nat} {wj : TI} {g1 : TG} {tt1 : TT} (hu : X.A.units < cLine) (hc : X.calm = true) (hN : X.N.Nodup) (I : Inv X pins σ H s) (hi : PI X tg iter wi) (ok : BlkOk X.N X.env.scope scope own) (hv : ∀ i ∈ vs1, i ∈ own.map (·.2)) (hs : ∀ x, foldedSetIterable iter X.env x = pure x)
    (hg : InBlk X scope fun Y => PG Y tg g) (ht : InBlk X scope fun Y => PTs Y ifs tt) (hi1 : InBlk X scope fun Y => PI Y tg1 iter1 wj) (hg1 : InBlk X scope fun Y => PG Y tg1 g1) (ht1 : InBlk X scope fun Y => PTs Y ifs1 tt1)
    (hk : InBlk X scope fun Y => PE Y kx tk) (he : InBlk X scope fun Y => PE Y vx tv) (hs1 : ∀ env x, foldedSetIterable iter1 env x = pure x)
    (h : tDc2G kd wi g tt wj g1 tt1 tk tv (own.map (·.2)) vs1 σ H Q)
    (hRR : ∀ D C s' m H', Inv X pins σ H' s' → Q (.ref D) H' → s'.heap.Ns C m → FpOk X pins H' C → compPost (model X.prog X.w) X.A X.xe use Qf (.ref D) C (.ok .next) s') :
    wpAny (model X.prog X.w) X.A (comprehension (dX2 kx vx tg iter tg1 iter1 ifs ifs1 scope pos) scope X.env pos' newDict false (eval iter X.env) use) Qf X.xe s := by
  refine d_frame (kd := kd) (L := fun (J : It) (D : Addr) (H3 : Hp) => wlk J g σ (own.map fun x : Str × Nat => x.2) tt (Q (.ref D)) (fun Nx σ2 H3 => wj σ2 H3 fun J1 H4 => wlk J1 g1 σ2 vs1 tt1 Nx (dSto D tk tv) H4) H3) hc hN I hi ok hs h hRR fun J D it C cl fp tn s3 s4 H3 T l0 I4 st4 n4 fin => ?_
  obtain ⟨W, ⟨m0, w0⟩, turn⟩ := l0
  generalize hce : compEnvC scope cl C X.env = ce at *
  have pg : PG (X.blk s3 H3 scope ce fp) tg g := by rw [← hce]; exact hg ..
  have pt : PTs (X.blk s3 H3 scope ce fp) ifs tt := by rw [← hce]; exact ht ..
  have pj : PI (X.blk s3 H3 scope ce fp) tg1 iter1 wj := by rw [← hce]; exact hi1 ..
  have pg1 : PG (X.blk s3 H3 scope ce fp) tg1 g1 := by rw [← hce]; exact hg1 ..
  have pt1 : PTs (X.blk s3 H3 scope ce fp) ifs1 tt1 := by rw [← hce]; exact ht1 ..
  have pk : PE (X.blk s3 H3 scope ce fp) kx tk := by rw [← hce]; exact hk ..
  have pe : PE (X.blk s3 H3 scope ce fp) vx tv := by rw [← hce]; exact he ..
  clear hg ht hi1 hg1 ht1 hk he h
  have hf : ∀ H', (∀ b ∈ fp, H' b = none) → ∀ b ∈ fp, FpOk (X.blk s3 H3 scope ce fp) [] H' b := fun H' hn b hb =>
    ⟨hn b hb, (I4.ok.exf b hb).1, I4.ok.exfs b hb, .inl hb, fun x c e => (I4.ok.exf b hb).2 x c e, fun p hp => absurd (show p ∈ ([] : List (Addr × Obj)) ++ [] from hp) (by simp)⟩
  refine dX2_loop0 (hs1 ce) (fun n s' => ∃ i H', Inv (X.blk s3 H3 scope ce fp) [] (wipe σ (own.map (·.2))) H' s' ∧ tn i s'.heap ∧ (∀ b ∈ fp, H' b = none) ∧ W i n H') ?_ m0 ⟨0, H3, I4, st4, n4, w0⟩
  rintro n s5 ⟨i, H5, I5, st5, n5, w5⟩
  rcases turn i n H5 w5 with ⟨stop, qq⟩ | ⟨go, Nx, hNx, step⟩
  · exact turn_ok (Y := X.blk s3 H3 scope ce fp) (ready := Q (.ref D)) (body := fun _ _ => False) (Nx := fun _ => False) rfl hc T pg pt hf I5 st5 n5 (.inl ⟨stop, qq⟩) (fun s6 I6 q => fin s6 H5 I6 q) (fun _ _ _ _ _ z => z.elim) (fun _ _ _ _ _ z => z.elim)
  · refine turn_ok (Y := X.blk s3 H3 scope ce fp) (ready := fun _ => False) (body := fun σ2 H3 => wj σ2 H3 fun J1 H4 => wlk J1 g1 σ2 vs1 tt1 Nx (dSto D tk tv) H4) (Nx := Nx) rfl hc T pg pt hf I5 st5 n5 (.inr ⟨go, step⟩) (fun _ _ z => z.elim) (fun s' H' a1 a2 a3 nx => ?_) (fun pl s9 σ8 H9 I9 q9 hw back => ?_)
    · obtain ⟨m, hm, w'⟩ := hNx H' nx
      exact ⟨m, hm, i + 1, H', a1, a2, a3, w'⟩
    · refine thnF (pj.run _ s9 σ8 H9 _ I9 q9) fun xv s10 hx => thnF hx fun jt s11 k11 => ?_
      obtain ⟨it1, fp1, tn1, J1, H11, rfl, I11, T1, st11, f11, W1, ⟨m1, w1⟩, turn1⟩ := k11
      have hf1 : ∀ H', (∀ b ∈ fp1, H' b = none) → ∀ b ∈ fp1, FpOk (X.blk s3 H3 scope ce fp) ([] ++ pl) H' b := fun H' hn b hb => ⟨hn b hb, (f11 b hb).2⟩
      have e8 : wipe (wipe σ8 vs1) (own.map (·.2)) = wipe σ (own.map (·.2)) ∨ True := .inr True.intro
      have hl : (wipe σ (own.map (·.2))).length = (wipe σ8 vs1).length := by rw [← hw, wipe_length, wipe_length]
      have hk9 : ∀ (j : Nat) v, (wipe σ (own.map (·.2)))[j]? = some (some v) → (wipe σ8 vs1)[j]? = some (some v) := fun j v e => by
        rw [← hw] at e
        obtain ⟨a1, a2⟩ := wipe_some e
        rw [wipe_out fun z => a2 (hv j z)]
        exact a1
      have loop1 : codeAny (model X.prog X.w) X.A (.compLoop (dX2 kx vx tg iter tg1 iter1 ifs ifs1 scope pos) 1 (.ref it1) (.ref D) ce) (fun r s' => match r with
          | .ok _ => ∃ m, m < n ∧ ∃ i H', Inv (X.blk s3 H3 scope ce fp) [] (wipe σ (own.map (·.2))) H' s' ∧ tn i s'.heap ∧ (∀ b ∈ fp, H' b = none) ∧ W i m H'
          | .error _ => False) s11 := by
        refine dX2_loop1 (fun k s' => ∃ j H', Inv (X.blk s3 H3 scope ce fp) ([] ++ pl) (wipe σ8 vs1) H' s' ∧ tn1 j s'.heap ∧ (∀ b ∈ fp1, H' b = none) ∧ W1 j k H') ?_ m1 ⟨0, H11, I11.weak (wipe_length _ _) (fun j v e => (wipe_some e).1), st11, fun b hb => (f11 b hb).1, w1⟩
        rintro k s12 ⟨j, H12, I12, st12, n12, w12⟩
        rcases turn1 j k H12 w12 with ⟨stop1, nx1⟩ | ⟨go1, Nx1, hNx1, step1⟩
        · refine turn_ok (Y := X.blk s3 H3 scope ce fp) (ready := Nx) (body := fun _ _ => False) (Nx := fun _ => False) rfl hc T1 pg1 pt1 hf1 I12 st12 n12 (.inl ⟨stop1, nx1⟩) (fun s6 I6 q => ?_) (fun _ _ _ _ _ z => z.elim) (fun _ _ _ _ _ z => z.elim)
          obtain ⟨m, hm, w'⟩ := hNx H12 q
          obtain ⟨a1, a2, a3⟩ := back _ s6 H12 I6 hl hk9
          exact ⟨m, hm, i + 1, H12, a1, a2, a3, w'⟩
        · refine turn_ok (Y := X.blk s3 H3 scope ce fp) (ready := fun _ => False) (body := dSto D tk tv Nx1) (Nx := Nx1) rfl hc T1 pg1 pt1 hf1 I12 st12 n12 (.inr ⟨go1, step1⟩) (fun _ _ z => z.elim) (fun s' H' a1 a2 a3 nx => ?_) (fun pl1 s13 σ13 H13 I13 q13 hw1 back1 => ?_)
          · obtain ⟨m, hm, w'⟩ := hNx1 H' nx
            exact ⟨m, hm, j + 1, H', a1, a2, a3, w'⟩
          · refine thnF (pk.run _ s13 σ13 H13 _ I13 q13) fun a s14 ⟨ya, H14, I14, r14, q14⟩ => ?_
            refine thnF (pe.run _ s14 σ13 H14 _ I14 q14) fun b s15 ⟨yb, H15, I15, r15, H16, put, nx⟩ => ?_
            refine d_dictSetG (X := X.blk s3 H3 scope ce fp) hu I15 put r14 r15 fun s16 I16 => ?_
            obtain ⟨m, hm, w'⟩ := hNx1 H16 nx
            obtain ⟨a1, a2, a3⟩ := back1 σ13 s16 H16 I16 (by rw [← hw1, wipe_length]) fun j v e => by
              rw [← hw1] at e
              exact (wipe_some e).1
            exact ⟨m, hm, j + 1, H16, a1, a2, a3, w'⟩
      exact dX2_start (.inr rfl) loop1 (T1.self X.A 0 _ _ _ st11 loop1)
theorem pe_dcG (hu : X.A.units < cLine) (hc : X.calm = true) (hN : X.N.Nodup) (hi : PI X tg iter wi) (ok : BlkOk X.N X.env.scope scope own) (hg : InBlk X scope fun Y => PG Y tg g) (ht : InBlk X scope fun Y => PTs Y ifs tt) (hk : InBlk X scope fun Y => PE Y kx tk) (he : InBlk X scope fun Y => PE Y vx tv)
    (hs : ∀ x, foldedSetIterable iter X.env x = pure x := by intro _; rfl) : PE X (.DictComp kx vx [⟨tg, iter, ifs, 0⟩] scope pos) (tDcG kd wi g tt tk tv (own.map (·.2))) := by
  refine ⟨fun pins s σ H Q I h => ?_⟩
  rw [arm_eval_DictComp]
  refine dcG_core hu hc hN I hi ok hs hg ht hk he h fun D C s' m H' I' q hn f => ⟨m, hn, fun h'' sb => ?_⟩
  obtain ⟨f0, f1, f2, f3, f4, f5⟩ := f
  exact ⟨.ref D, H', I'.turned (t' := s'.toks) (fun b o hb e => (sb.2 b hb).trans e) f0 f1 f3 f4 f5, rfl, q⟩
theorem pe_dc2G {tg1 iter1 : Expr} {ifs1 : List Expr} {vs1 : List Nat} {wj : TI} {g1 : TG} {tt1 : TT} (hu : X.A.units < cLine) (hc : X.calm = true) (hN : X.N.Nodup) (hi : PI X tg iter wi) (ok : BlkOk X.N X.env.scope scope own) (hv : ∀ i ∈ vs1, i ∈ own.map (·.2)) (hg : InBlk X scope fun Y => PG Y tg g) (ht : InBlk X scope fun Y => PTs Y ifs tt)
    (hi1 : InBlk X scope fun Y => PI Y tg1 iter1 wj) (hg1 : InBlk X scope fun Y => PG Y tg1 g1) (ht1 : InBlk X scope fun Y => PTs Y ifs1 tt1) (hk : InBlk X scope fun Y => PE Y kx tk) (he : InBlk X scope fun Y => PE Y vx tv)
    (hs : ∀ x, foldedSetIterable iter X.env x = pure x := by intro _; rfl) (hs1 : ∀ env x, foldedSetIterable iter1 env x = pure x := by intro _ _; rfl) : PE X (dX2 kx vx tg iter tg1 iter1 ifs ifs1 scope pos) (tDc2G kd wi g tt wj g1 tt1 tk tv (own.map (·.2)) vs1) := by
  refine ⟨fun pins s σ H Q I h => ?_⟩
  rw [arm_eval_DictComp]
  refine dc2G_core hu hc hN I hi ok hv hs hg ht hi1 hg1 ht1 hk he hs1 h fun D C s' m H' I' q hn f => ⟨m, hn, fun h'' sb => ?_⟩
  obtain ⟨f0, f1, f2, f3, f4, f5⟩ := f
  exact ⟨.ref D, H', I'.turned (t' := s'.toks) (fun b o hb e => (sb.2 b hb).trans e) f0 f1 f3 f4 f5, rfl, q⟩
end

/-! ### the values and the items of a locked dict whose keys are tuples -/
section
variable {X : Cx} {pins : List (Addr × Obj)} {σ : St} {H : Hp} {s : Shared} {d : Addr} {o : Obj} {kvs : List (List Key × V)}
theorem Inv.frzTV (I : Inv X pins σ H s) (h : H d = some (.frz o (.dT kvs))) :
    (d == sysModules) = false ∧ s.heap.get? d = some o ∧ o.ExactDict ∧ ∃ (es : Array DictEntry) (ep : Nat), o.data = .dict es ep ∧ es.size = kvs.length ∧
      ∀ (i : Nat) (k : List Key) (v : V) (hi : i < es.size), kvs[i]? = some (k, v) → ∃ q : Addr, es[i].key = .ref q ∧ H q = some (.tup (k.map kV)) ∧ RelV v es[i].val := by
  obtain ⟨hd, z, nsys, xs, pr, o', es, ep, ho, hx, hdt, he, _⟩ := I.hok d _ h
  rw [hd] at ho
  cases ho
  refine ⟨nsys, hd, hx, es, ep, hdt, ?_, fun i k v hi e => ?_⟩
  · rw [size_of_entries he, Paired.length pr]
  · obtain ⟨b, hb, e1, e2, e3⟩ := paired_get pr e
    have q := entry_at he i
    rw [hb, Array.getElem?_eq_getElem hi] at q
    have q : es[i] = _ := Option.some.inj q
    rw [q]
    exact ⟨b.2.1, rfl, e2, e3⟩
end
/-- the values -/
def Itdt (d : Addr) (o : Obj) (kvs : List (List Key × V)) : It :=
  ⟨fun i H => H d = some (.frz o (.dT kvs)) ∧ i < kvs.length, fun i H x H' => H' = H ∧ ∃ k, kvs[i]? = some (k, x), fun i H => H d = some (.frz o (.dT kvs)) ∧ kvs.length ≤ i⟩
/-- the pairs: the key's own tuple and the value -/
def Itit (d : Addr) (o : Obj) (kvs : List (List Key × V)) : It :=
  ⟨fun i H => H d = some (.frz o (.dT kvs)) ∧ i < kvs.length, fun i H x H' => ∃ T k v q, kvs[i]? = some (k, v) ∧ H q = some (.tup (k.map kV)) ∧ x = .ref T ∧ H T = none ∧ H' = upd H T (.tup [.ref q, v]), fun i H => H d = some (.frz o (.dT kvs)) ∧ kvs.length ≤ i⟩
section
variable {P : Program} {w : World} {K : PySem.W.Frag} {tg : Expr} {d : Addr} {o : Obj} {es : Array DictEntry} {ep : Nat} {kvs : List (List Key × V)}
theorem turn_valsT (it : Addr) (hod : o.data = .dict es ep) : Turn P w K tg (Itdt d o kvs) [it] it (fun i h => h.IsValIter it d i kvs.length ep) where
  mem := List.mem_singleton.mpr rfl
  obj := fun i h st b hb => by
    obtain rfl := List.mem_singleton.mp hb
    obtain ⟨oi, e, _, dd⟩ := st
    exact ⟨oi, e, fun v z => by rw [dd] at z; cases z⟩
  keep := fun i h h' st k => st.at fun oi e => k it (List.mem_singleton.mpr rfl) oi e
  item := by
    intro X hP hw hK hc i pins s σ H E I hf st ⟨hd, hi⟩
    subst hP hw hK
    obtain ⟨f0, f1, f2, f3, f4, f5⟩ := hf it (List.mem_singleton.mpr rfl)
    obtain ⟨nsys, hgd, hx, es', ep', hdt, hsz, ent⟩ := I.frzTV hd
    obtain ⟨rfl, rfl⟩ := dict_ep hod hdt
    obtain ⟨⟨k, v⟩, hkv⟩ : ∃ p, kvs[i]? = some p := ⟨kvs[i], List.getElem?_eq_getElem hi⟩
    have hi' : i < es'.size := by omega
    obtain ⟨q, _, _, rv⟩ := ent i k v hi' hkv
    rw [← hsz] at st
    refine wpAny_pyNext_values_item_raw st ⟨o, hgd, hx, hdt⟩ hi' fun h' st' sb => ?_
    have I1 : Inv X pins σ H { s with heap := h' } := I.turned (t' := s.toks) (fun b ob hb e => (sb.2 b hb).trans e) f0 f1 f3 f4 f5
    obtain ⟨oi, e, c, dd⟩ := id st'
    refine ⟨_, rfl, go_of (s := { s with heap := h' }) e c dd (by decide) ⟨v, H, I1, rv, ⟨rfl, k, hkv⟩, ?_, fun b hb => (hf b hb).1⟩⟩
    rw [← hsz]
    exact st'
  done := by
    intro X hP hw hK hc i pins s σ H E I hf st ⟨hd, hi⟩
    subst hP hw hK
    obtain ⟨f0, f1, f2, f3, f4, f5⟩ := hf it (List.mem_singleton.mpr rfl)
    obtain ⟨nsys, hgd, hx, es', ep', hdt, hsz, ent⟩ := I.frzTV hd
    obtain ⟨rfl, rfl⟩ := dict_ep hod hdt
    rw [← hsz] at st
    exact wpAny_pyNext_values_end_raw (I.ok.hd hc) st ⟨o, hgd, hx, hdt⟩ (by omega) fun h' eb => ⟨rfl, I.turned (t' := s.toks) (fun b ob hb e => eb b ob hb e) f0 f1 f3 f4 f5⟩
  self := fun A i s Q E st h => wpAny_pyIter_valiter st h
theorem turn_itemsT {elts : List Expr} {kk : Nat} {tpos : Pos} (it : Addr) (hod : o.data = .dict es ep) : Turn P w K (.Tuple elts kk tpos) (Itit d o kvs) [it] it (fun i h => ∃ ok ov, IsItemIter h it d i kvs.length ep ok ov) where
  mem := List.mem_singleton.mpr rfl
  obj := fun i h st b hb => by
    obtain rfl := List.mem_singleton.mp hb
    obtain ⟨ok, ov, e⟩ := st
    exact ⟨_, e, fun v z => nomatch z⟩
  keep := fun i h h' st k => let ⟨ok, ov, e⟩ := st; ⟨ok, ov, k it (List.mem_singleton.mpr rfl) _ e⟩
  item := by
    intro X hP hw hK hc i pins s σ H E I hf st ⟨hd, hi⟩
    subst hP hw hK
    obtain ⟨nsys, hgd, hx, es', ep', hdt, hsz, ent⟩ := I.frzTV hd
    obtain ⟨rfl, rfl⟩ := dict_ep hod hdt
    obtain ⟨⟨k, v⟩, hkv⟩ : ∃ p, kvs[i]? = some p := ⟨kvs[i], List.getElem?_eq_getElem hi⟩
    have hi' : i < es'.size := by omega
    obtain ⟨q, ek, hq, rv⟩ := ent i k v hi' hkv
    obtain ⟨ok, ov, he⟩ := st
    rw [← hsz] at he
    have lt := Heap.lt_size he
    refine wpAny_pyNext_items_item_raw he ⟨o, hgd, hx, hdt⟩ hi' fun h' ho hT hz hk => ?_
    refine ⟨_, rfl, wpAny_letOwnedTupleGo_items (s := { s with heap := h' }) ho fun h2 he2 sb => ?_⟩
    have hT2 := (sb.2 _ (Nat.ne_of_gt lt)).trans hT
    rw [ek] at hT2
    have new : ObjOk X.prog X.w (upd H s.heap.objs.size (.tup [.ref q, v])) h2 s.heap.objs.size (.tup [.ref q, v]) :=
      ⟨by show 2 ≤ sizeLine; decide, [.ref q, es'[i].val], .cons rfl (.cons rv .nil), ⟨_, hT2, rfl, _, rfl⟩⟩
    have I1 : Inv X pins σ (upd H s.heap.objs.size (.tup [.ref q, v])) { s with heap := h2 } :=
      I.turnedNew (t' := s.toks) (ch := [it]) (fun b ob hb e => (sb.2 b fun z => hb (List.mem_singleton.mpr z)).trans (hk b ob (fun z => hb (List.mem_singleton.mpr z)) e)) hf (Nat.le_refl _) new
    have st2 : ∃ ok ov, IsItemIter h2 it d (i + 1) kvs.length ep' ok ov := by
      rw [← hsz]
      exact ⟨_, _, he2⟩
    refine ⟨.ref s.heap.objs.size, _, I1, rfl, ⟨_, k, v, q, hkv, hq, rfl, I.hok.fresh (Nat.le_refl _), rfl⟩, st2, fun b hb => ?_⟩
    · obtain rfl := List.mem_singleton.mp hb
      rw [upd_ne (Nat.ne_of_lt lt)]
      exact (hf b hb).1
  done := by
    intro X hP hw hK hc i pins s σ H E I hf st ⟨hd, hi⟩
    subst hP hw hK
    obtain ⟨f0, f1, f2, f3, f4, f5⟩ := hf it (List.mem_singleton.mpr rfl)
    obtain ⟨nsys, hgd, hx, es', ep', hdt, hsz, ent⟩ := I.frzTV hd
    obtain ⟨rfl, rfl⟩ := dict_ep hod hdt
    obtain ⟨ok, ov, he⟩ := st
    rw [← hsz] at he
    exact wpAny_pyNext_items_end_raw (I.ok.hd hc) he ⟨o, hgd, hx, hdt⟩ (by omega) fun h' eb => ⟨rfl, I.turned (t' := s.toks) (fun b ob hb e => eb b ob hb e) f0 f1 f3 f4 f5⟩
  self := fun A i s Q E st h => let ⟨_, _, e⟩ := st; PySem.W.kcp_self e h
end
def iValsT (td : TE) : TI := fun σ H R => td σ H fun x H1 => ∃ d o kvs, x = .ref d ∧ H1 d = some (.frz o (.dT kvs)) ∧ R (Itdt d o kvs) H1
def iItemsT (td : TE) : TI := fun σ H R => td σ H fun x H1 => ∃ d o kvs, x = .ref d ∧ H1 d = some (.frz o (.dT kvs)) ∧ R (Itit d o kvs) H1
section
variable {X : Cx} {tg e : Expr} {td : TE} {apos cpos : Pos}
theorem noD_of {d : Addr} {o : Obj} {s : Shared} (hgd : s.heap.get? d = some o) (hx : o.ExactDict) : ∀ b, Value.ref d = .ref b → ∃ ob, s.heap.get? b = some ob ∧ ob.dict = none := fun b q => by
  cases q
  exact ⟨o, hgd, hx.2.1⟩
theorem pi_valuesT (he : PE X e td) (hbase : attributeBase e "values" X.env (eval e X.env) = eval e X.env := by rfl) (hline : (apos.endLine == cpos.line) = true := by rfl) : PI X tg (.Call (.Attribute e "values" apos) [] [] cpos) (iValsT td) := by
  refine ⟨fun pins s σ H R I h => ?_⟩
  refine wpAny_Call_method (T := "dict") (id := "dict.values") hbase rfl hline F.plainAttrs_dict F.slot_dict_values F.type_dict_values (thn (he.run pins s σ H _ I h) fun u s1 ⟨x, H1, I1, rx, d, o, kvs, ex, hd, q⟩ => ?_)
  subst ex
  obtain rfl : u = Value.ref d := rx
  obtain ⟨nsys, hgd, hx, es, ep, hdt, hsz, ent⟩ := I1.frzTV hd
  have raw : s1.heap.DictRaw d es ep := ⟨o, hgd, hx, hdt⟩
  refine ⟨raw.typeIs, noD_of hgd hx, ?_⟩
  have I2 : Inv X pins σ H1 { s1 with heap := s1.heap.push { cls := .type "dict_values", data := .fields #[.ref d] } } := I1.kept (t' := s1.toks) fun b ob q => Heap.get?_push_of_some _ q
  have fin : wpAny (model X.prog X.w) X.A (pyIter (.ref s1.heap.objs.size)) (PIE X pins σ tg R) X.xe { s1 with heap := s1.heap.push { cls := .type "dict_values", data := .fields #[.ref d] } } := by
    refine wpAny_pyIter_values_raw ⟨_, Heap.get?_push_size _ rfl, rfl, rfl⟩ (raw.at fun _ z => Heap.get?_push_of_some _ z) (pi_one (tk := s1.toks) I2 _ (turn_valsT _ hdt) ⟨_, Heap.get?_push_size _ rfl, rfl, ?_⟩ q)
    rw [hsz] <;> rfl
  show wpAny _ _ (callWith cpos (.builtin "dict.values") [.ref d] [] []) _ X.xe s1
  exact method_meetsIn F.slot_dict_values F.entry_dict_values rfl (PySem.evalArgs_none ⟨rfl, raw.typeIs, F.args_dict_values_1 _, _, meets_dict_values_raw d nsys, ⟨⟨es, ep, raw⟩, fin⟩⟩)
theorem pi_itemsT {elts : List Expr} {kk : Nat} {tpos : Pos} (he : PE X e td) (hbase : attributeBase e "items" X.env (eval e X.env) = eval e X.env := by rfl) (hline : (apos.endLine == cpos.line) = true := by rfl) :
    PI X (.Tuple elts kk tpos) (.Call (.Attribute e "items" apos) [] [] cpos) (iItemsT td) := by
  refine ⟨fun pins s σ H R I h => ?_⟩
  refine wpAny_Call_method (T := "dict") (id := "dict.items") hbase rfl hline F.plainAttrs_dict F.slot_dict_items F.type_dict_items (thn (he.run pins s σ H _ I h) fun u s1 ⟨x, H1, I1, rx, d, o, kvs, ex, hd, q⟩ => ?_)
  subst ex
  obtain rfl : u = Value.ref d := rx
  obtain ⟨nsys, hgd, hx, es, ep, hdt, hsz, ent⟩ := I1.frzTV hd
  have raw : s1.heap.DictRaw d es ep := ⟨o, hgd, hx, hdt⟩
  refine ⟨raw.typeIs, noD_of hgd hx, ?_⟩
  have I2 : Inv X pins σ H1 { s1 with heap := s1.heap.push { cls := .type "dict_items", data := .fields #[.ref d] } } := I1.kept (t' := s1.toks) fun b ob q => Heap.get?_push_of_some _ q
  have fin : wpAny (model X.prog X.w) X.A (pyIter (.ref s1.heap.objs.size)) (PIE X pins σ (.Tuple elts kk tpos) R) X.xe { s1 with heap := s1.heap.push { cls := .type "dict_items", data := .fields #[.ref d] } } := by
    refine wpAny_pyIter_items_raw ⟨_, Heap.get?_push_size _ rfl, rfl, rfl⟩ (raw.at fun _ z => Heap.get?_push_of_some _ z) (pi_one (tk := s1.toks) I2 _ (turn_itemsT _ hdt) ⟨.none, .none, ?_⟩ q)
    rw [← hsz]
    exact Heap.get?_push_size _ rfl
  show wpAny _ _ (callWith cpos (.builtin "dict.items") [.ref d] [] []) _ X.xe s1
  exact method_meetsIn F.slot_dict_items F.entry_dict_items rfl (PySem.evalArgs_none ⟨rfl, raw.typeIs, F.args_dict_items_1 _, _, meets_dict_items_raw d nsys, ⟨⟨es, ep, raw⟩, fin⟩⟩)
end
section
variable {d : Addr} {o : Obj} {kvs : List (List Key × V)}
theorem walk_valuesT : Walk (Itdt d o kvs) kvs.length (fun H => H d = some (.frz o (.dT kvs))) (fun i H x H' => H' = H ∧ ∃ k, kvs[i]? = some (k, x)) :=
  ⟨fun _ _ hi q => ⟨q, hi⟩, fun _ q => ⟨q, Nat.le_refl _⟩, fun _ _ _ _ _ _ y => y⟩
theorem walk_itemsT : Walk (Itit d o kvs) kvs.length (fun H => H d = some (.frz o (.dT kvs))) (fun i H x H' => ∃ T k v q, kvs[i]? = some (k, v) ∧ H q = some (.tup (k.map kV)) ∧ x = .ref T ∧ H T = none ∧ H' = upd H T (.tup [.ref q, v])) :=
  ⟨fun _ _ hi q => ⟨q, hi⟩, fun _ q => ⟨q, Nat.le_refl _⟩, fun _ _ _ _ _ _ y => y⟩
/-- a dict comprehension's clause over a known walk: Pv by the turn and the heap -/
theorem wlk_it {J : It} {n : Nat} {G : Hp → Prop} {Y : Nat → Hp → V → Hp → Prop} (w : Walk J n G Y) {g : TG} {tt : TT} {vs : List Nat} {σ0 : St} {ready : Hp → Prop} {body : (Hp → Prop) → St → Hp → Prop} {H0 : Hp} (Pv : Nat → Hp → Prop) (h0 : Pv 0 H0) (hG : ∀ i H, i ≤ n → Pv i H → G H)
    (hs : ∀ i x H H', i < n → Pv i H → Y i H x H' → g x (wipe σ0 vs) H' fun σ2 H2 => wipe σ2 vs = wipe σ0 vs ∧ tt σ2 H2 fun b H3 => if b = true then body (Pv (i + 1)) σ2 H3 else Pv (i + 1) H3) (hd : ∀ H, Pv n H → ready H) :
    wlk J g σ0 vs tt ready body H0 := by
  refine ⟨fun i m H => m = n - i ∧ i ≤ n ∧ Pv i H, ⟨n, by simp, Nat.zero_le _, h0⟩, ?_⟩
  rintro i m H ⟨rfl, hi, p⟩
  have q := hG i H hi p
  by_cases hlt : i < n
  · exact .inr ⟨w.goes i H hlt q, Pv (i + 1), fun H' p' => ⟨n - (i + 1), by omega, rfl, hlt, p'⟩, fun x H' y => hs i x H H' hlt p (w.yields i H x H' hlt q y)⟩
  · obtain rfl : i = n := by omega
    exact .inl ⟨w.stops H q, hd H p⟩
end
end L2

set_option maxHeartbeats 2000000
namespace K19
open PySem PySem.Spec PyProof.Rows L2 Evl MyG
/-! ### the text by places -/
def top (i : Nat) : Stmt := PySem.Challenge.pw_ringless_k19_whole_posts_by_any_order.main.body.getD i (.Pass ⟨0, 0, 0, 0⟩)
abbrev s_l_state : Stmt := (top 26)
abbrev n_l_state : List Str := ["_law_script", "_law_cell"]
theorem sc_l_state : FnScope ["_law_script", "_law_cell"] ["_law_script"] (defScope s_l_state) := ⟨rfl, rfl, rfl, by decide +kernel, rfl, by decide +kernel, by decide +kernel⟩
abbrev s_l_draw : Stmt := (top 27)
abbrev n_l_draw : List Str := ["_law_state_here", "_law_many", "_law_cells", "_law_at", "_law_cell"]
theorem sc_l_draw : FnScope ["_law_state_here", "_law_many", "_law_cells", "_law_at", "_law_cell"] ["_law_state_here", "_law_many"] (defScope s_l_draw) := ⟨rfl, rfl, rfl, by decide +kernel, rfl, by decide +kernel, by decide +kernel⟩
abbrev s_l_alike : Stmt := (top 28)
abbrev n_l_alike : List Str := ["_law_one", "_law_other", "_law_k"]
theorem sc_l_alike : FnScope ["_law_one", "_law_other", "_law_k"] ["_law_one", "_law_other"] (defScope s_l_alike) := ⟨rfl, rfl, rfl, by decide +kernel, rfl, by decide +kernel, by decide +kernel⟩
abbrev s_l_ground : Stmt := (top 29)
abbrev n_l_ground : List Str := ["_law_state_here", "_law_most_halls", "_law_most_links", "_law_first", "_law_step", "_law_halls", "_law_k", "_law_links", "_law_at", "_law_other"]
theorem sc_l_ground : FnScope ["_law_state_here", "_law_most_halls", "_law_most_links", "_law_first", "_law_step", "_law_halls", "_law_k", "_law_links", "_law_at", "_law_other"] ["_law_state_here", "_law_most_halls", "_law_most_links"] (defScope s_l_ground) := ⟨rfl, rfl, rfl, by decide +kernel, rfl, by decide +kernel, by decide +kernel⟩
abbrev s_l_any_ground : Stmt := (top 30)
abbrev n_l_any_ground : List Str := ["_law_state_here"]
theorem sc_l_any_ground : FnScope ["_law_state_here"] ["_law_state_here"] (defScope s_l_any_ground) := ⟨rfl, rfl, rfl, by decide +kernel, rfl, by decide +kernel, by decide +kernel⟩
abbrev s_l_beyond : Stmt := (top 31)
abbrev n_l_beyond : List Str := ["_law_links", "_law_at", "_law_end"]
theorem sc_l_beyond : FnScope ["_law_links", "_law_at", "_law_end"] ["_law_links", "_law_at", "_law_end"] (defScope s_l_beyond) := ⟨rfl, rfl, rfl, by decide +kernel, rfl, by decide +kernel, by decide +kernel⟩
abbrev s_l_letter : Stmt := (top 32)
abbrev n_l_letter : List Str := ["_law_state_here", "_law_some", "_law_told", "_law_k"]
theorem sc_l_letter : FnScope ["_law_state_here", "_law_some", "_law_told", "_law_k"] ["_law_state_here"] (defScope s_l_letter) := ⟨rfl, rfl, rfl, by decide +kernel, rfl, by decide +kernel, by decide +kernel⟩
abbrev s_l_made : Stmt := (top 33)
abbrev n_l_made : List Str := ["_law_told"]
theorem sc_l_made : FnScope ["_law_told"] ["_law_told"] (defScope s_l_made) := ⟨rfl, rfl, rfl, by decide +kernel, rfl, by decide +kernel, by decide +kernel⟩
abbrev s_l_stands : Stmt := (top 34)
abbrev n_l_stands : List Str := ["_law_post", "_law_lanes", "_law_door", "_law_doors", "_law_found", "_law_told"]
theorem sc_l_stands : FnScope ["_law_post", "_law_lanes", "_law_door", "_law_doors", "_law_found", "_law_told"] ["_law_post", "_law_lanes"] (defScope s_l_stands) := ⟨rfl, rfl, rfl, by decide +kernel, rfl, by decide +kernel, by decide +kernel⟩
abbrev s_l_row : Stmt := (top 35)
abbrev n_l_row : List Str := ["_law_state_here", "_law_links", "_law_many", "_law_found", "_law_left", "_law_k", "_law_at", "_law_door"]
theorem sc_l_row : FnScope ["_law_state_here", "_law_links", "_law_many", "_law_found", "_law_left", "_law_k", "_law_at", "_law_door"] ["_law_state_here", "_law_links", "_law_many"] (defScope s_l_row) := ⟨rfl, rfl, rfl, by decide +kernel, rfl, by decide +kernel, by decide +kernel⟩
abbrev s_l_order : Stmt := (top 36)
abbrev n_l_order : List Str := ["_law_state_here", "_law_deeds", "_law_left", "_law_found", "_law_door"]
theorem sc_l_order : FnScope ["_law_state_here", "_law_deeds", "_law_left", "_law_found", "_law_door"] ["_law_state_here", "_law_deeds"] (defScope s_l_order) := ⟨rfl, rfl, rfl, by decide +kernel, rfl, by decide +kernel, by decide +kernel⟩
abbrev s_l_done : Stmt := (top 37)
abbrev n_l_done : List Str := ["_law_post", "_law_links", "_law_deeds", "_law_order_here", "_law_places", "_law_told", "_law_door", "_law_deed"]
theorem sc_l_done : FnScope ["_law_post", "_law_links", "_law_deeds", "_law_order_here", "_law_places", "_law_told", "_law_door", "_law_deed"] ["_law_post", "_law_links", "_law_deeds", "_law_order_here", "_law_places", "_law_told"] (defScope s_l_done) := ⟨rfl, rfl, rfl, by decide +kernel, rfl, by decide +kernel, by decide +kernel⟩
abbrev s_l_due : Stmt := (top 38)
abbrev n_l_due : List Str := ["_law_deeds", "_law_told", "_law_left", "_law_door", "_law_sent", "_law_many", "_law_deed"]
theorem sc_l_due : FnScope ["_law_deeds", "_law_told", "_law_left", "_law_door", "_law_sent", "_law_many", "_law_deed"] ["_law_deeds"] (defScope s_l_due) := ⟨rfl, rfl, rfl, by decide +kernel, rfl, by decide +kernel, by decide +kernel⟩
abbrev s_l_same : Stmt := (top 39)
abbrev n_l_same : List Str := ["_law_told", "_law_wanted", "_law_doors", "_law_door"]
theorem sc_l_same : FnScope ["_law_told", "_law_wanted", "_law_doors", "_law_door"] ["_law_told", "_law_wanted"] (defScope s_l_same) := ⟨rfl, rfl, rfl, by decide +kernel, rfl, by decide +kernel, by decide +kernel⟩
abbrev s_is_number : Stmt := (top 20)
abbrev n_is_number : List Str := ["thing"]
theorem sc_is_number : FnScope ["thing"] ["thing"] (defScope s_is_number) := ⟨rfl, rfl, rfl, by decide +kernel, rfl, by decide +kernel, by decide +kernel⟩
abbrev s__are_halls : Stmt := (top 21)
abbrev n__are_halls : List Str := ["things", "thing"]
theorem sc__are_halls : FnScope ["things", "thing"] ["things"] (defScope s__are_halls) := ⟨rfl, rfl, rfl, by decide +kernel, rfl, by decide +kernel, by decide +kernel⟩
abbrev s__is_link : Stmt := (top 22)
abbrev n__is_link : List Str := ["thing", "halls", "one", "other", "cost", "part"]
theorem sc__is_link : FnScope ["thing", "halls", "one", "other", "cost", "part"] ["thing", "halls"] (defScope s__is_link) := ⟨rfl, rfl, rfl, by decide +kernel, rfl, by decide +kernel, by decide +kernel⟩
abbrev s__are_links : Stmt := (top 23)
abbrev n__are_links : List Str := ["things", "halls", "thing"]
theorem sc__are_links : FnScope ["things", "halls", "thing"] ["things", "halls"] (defScope s__are_links) := ⟨rfl, rfl, rfl, by decide +kernel, rfl, by decide +kernel, by decide +kernel⟩
abbrev s_Net___init__ : Stmt := (inClass (top 24) 0)
abbrev n_Net___init__ : List Str := ["self", "halls", "links"]
theorem sc_Net___init__ : FnScope ["self", "halls", "links"] ["self", "halls", "links"] (defScope s_Net___init__) := ⟨rfl, rfl, rfl, by decide +kernel, rfl, by decide +kernel, by decide +kernel⟩
abbrev s_Net_halls : Stmt := (inClass (top 24) 2)
abbrev n_Net_halls : List Str := ["self"]
theorem sc_Net_halls : FnScope ["self"] ["self"] (defScope s_Net_halls) := ⟨rfl, rfl, rfl, by decide +kernel, rfl, by decide +kernel, by decide +kernel⟩
abbrev s_Net_links : Stmt := (inClass (top 24) 4)
abbrev n_Net_links : List Str := ["self"]
theorem sc_Net_links : FnScope ["self"] ["self"] (defScope s_Net_links) := ⟨rfl, rfl, rfl, by decide +kernel, rfl, by decide +kernel, by decide +kernel⟩
abbrev s_Net_most : Stmt := (inClass (top 24) 5)
abbrev n_Net_most : List Str := ["self", "link"]
theorem sc_Net_most : FnScope ["self", "link"] ["self"] (defScope s_Net_most) := ⟨rfl, rfl, rfl, by decide +kernel, rfl, by decide +kernel, by decide +kernel⟩
abbrev s_Net_doors : Stmt := (inClass (top 24) 6)
abbrev n_Net_doors : List Str := ["self", "hall", "link", "one", "other", "_"]
theorem sc_Net_doors : FnScope ["self", "hall", "link", "one", "other", "_"] ["self", "hall"] (defScope s_Net_doors) := ⟨rfl, rfl, rfl, by decide +kernel, rfl, by decide +kernel, by decide +kernel⟩
abbrev s_Net__link : Stmt := (inClass (top 24) 10)
abbrev n_Net__link : List Str := ["self", "link"]
theorem sc_Net__link : FnScope ["self", "link"] ["self", "link"] (defScope s_Net__link) := ⟨rfl, rfl, rfl, by decide +kernel, rfl, by decide +kernel, by decide +kernel⟩
abbrev s_Net_beyond : Stmt := (inClass (top 24) 7)
abbrev n_Net_beyond : List Str := ["self", "link", "hall", "one", "other", "_"]
theorem sc_Net_beyond : FnScope ["self", "link", "hall", "one", "other", "_"] ["self", "link", "hall"] (defScope s_Net_beyond) := ⟨rfl, rfl, rfl, by decide +kernel, rfl, by decide +kernel, by decide +kernel⟩
abbrev s_Net_cost : Stmt := (inClass (top 24) 9)
abbrev n_Net_cost : List Str := ["self", "link"]
theorem sc_Net_cost : FnScope ["self", "link"] ["self", "link"] (defScope s_Net_cost) := ⟨rfl, rfl, rfl, by decide +kernel, rfl, by decide +kernel, by decide +kernel⟩
abbrev s_Net_ends : Stmt := (inClass (top 24) 8)
abbrev n_Net_ends : List Str := ["self", "link", "one", "other", "_"]
theorem sc_Net_ends : FnScope ["self", "link", "one", "other", "_"] ["self", "link"] (defScope s_Net_ends) := ⟨rfl, rfl, rfl, by decide +kernel, rfl, by decide +kernel, by decide +kernel⟩
abbrev s_Post___init__ : Stmt := (inClass (top 10) 0)
abbrev n_Post___init__ : List Str := ["self", "net", "link", "hall"]
theorem sc_Post___init__ : FnScope ["self", "net", "link", "hall"] ["self", "net"] (defScope s_Post___init__) := ⟨rfl, rfl, rfl, by decide +kernel, rfl, by decide +kernel, by decide +kernel⟩
abbrev s_Post___len__ : Stmt := (inClass (top 10) 1)
abbrev n_Post___len__ : List Str := ["self", "row", "letter"]
theorem sc_Post___len__ : FnScope ["self", "row", "letter"] ["self"] (defScope s_Post___len__) := ⟨rfl, rfl, rfl, by decide +kernel, rfl, by decide +kernel, by decide +kernel⟩
abbrev s_Post_send : Stmt := (inClass (top 10) 2)
abbrev n_Post_send : List Str := ["self", "link", "hall", "letter", "beyond"]
theorem sc_Post_send : FnScope ["self", "link", "hall", "letter", "beyond"] ["self", "link", "hall", "letter"] (defScope s_Post_send) := ⟨rfl, rfl, rfl, by decide +kernel, rfl, by decide +kernel, by decide +kernel⟩
abbrev s_Post_first : Stmt := (inClass (top 10) 3)
abbrev n_Post_first : List Str := ["self", "link", "hall"]
theorem sc_Post_first : FnScope ["self", "link", "hall"] ["self", "link", "hall"] (defScope s_Post_first) := ⟨rfl, rfl, rfl, by decide +kernel, rfl, by decide +kernel, by decide +kernel⟩
abbrev s_Post_take : Stmt := (inClass (top 10) 4)
abbrev n_Post_take : List Str := ["self", "link", "hall", "row"]
theorem sc_Post_take : FnScope ["self", "link", "hall", "row"] ["self", "link", "hall"] (defScope s_Post_take) := ⟨rfl, rfl, rfl, by decide +kernel, rfl, by decide +kernel, by decide +kernel⟩
abbrev s_Post_waiting : Stmt := (inClass (top 10) 6)
abbrev n_Post_waiting : List Str := ["self", "door", "row"]
theorem sc_Post_waiting : FnScope ["self", "door", "row"] ["self"] (defScope s_Post_waiting) := ⟨rfl, rfl, rfl, by decide +kernel, rfl, by decide +kernel, by decide +kernel⟩
abbrev s_Post_rows : Stmt := (inClass (top 10) 7)
abbrev n_Post_rows : List Str := ["self", "door", "letter"]
theorem sc_Post_rows : FnScope ["self", "door", "letter"] ["self"] (defScope s_Post_rows) := ⟨rfl, rfl, rfl, by decide +kernel, rfl, by decide +kernel, by decide +kernel⟩
abbrev s_Post_twin : Stmt := (inClass (top 10) 8)
abbrev n_Post_twin : List Str := ["self", "other", "door", "row"]
theorem sc_Post_twin : FnScope ["self", "other", "door", "row"] ["self"] (defScope s_Post_twin) := ⟨rfl, rfl, rfl, by decide +kernel, rfl, by decide +kernel, by decide +kernel⟩
abbrev s_Post__row : Stmt := (inClass (top 10) 9)
abbrev n_Post__row : List Str := ["self", "link", "hall", "row"]
theorem sc_Post__row : FnScope ["self", "link", "hall", "row"] ["self", "link", "hall"] (defScope s_Post__row) := ⟨rfl, rfl, rfl, by decide +kernel, rfl, by decide +kernel, by decide +kernel⟩
abbrev s_Say___init__ : Stmt := (inClass (top 13) 0)
abbrev n_Say___init__ : List Str := ["self", "number", "root", "far"]
theorem sc_Say___init__ : FnScope ["self", "number", "root", "far"] ["self", "number", "root", "far"] (defScope s_Say___init__) := ⟨rfl, rfl, rfl, by decide +kernel, rfl, by decide +kernel, by decide +kernel⟩
abbrev s_Say___eq__ : Stmt := (inClass (top 13) 1)
abbrev n_Say___eq__ : List Str := ["self", "other"]
theorem sc_Say___eq__ : FnScope ["self", "other"] ["self", "other"] (defScope s_Say___eq__) := ⟨rfl, rfl, rfl, by decide +kernel, rfl, by decide +kernel, by decide +kernel⟩
abbrev s_Say_told : Stmt := (inClass (top 13) 2)
abbrev n_Say_told : List Str := ["self"]
theorem sc_Say_told : FnScope ["self"] ["self"] (defScope s_Say_told) := ⟨rfl, rfl, rfl, by decide +kernel, rfl, by decide +kernel, by decide +kernel⟩
abbrev s_Agree___init__ : Stmt := (inClass (top 14) 0)
abbrev n_Agree___init__ : List Str := ["self", "number"]
theorem sc_Agree___init__ : FnScope ["self", "number"] ["self", "number"] (defScope s_Agree___init__) := ⟨rfl, rfl, rfl, by decide +kernel, rfl, by decide +kernel, by decide +kernel⟩
abbrev s_Agree___eq__ : Stmt := (inClass (top 14) 1)
abbrev n_Agree___eq__ : List Str := ["self", "other"]
theorem sc_Agree___eq__ : FnScope ["self", "other"] ["self", "other"] (defScope s_Agree___eq__) := ⟨rfl, rfl, rfl, by decide +kernel, rfl, by decide +kernel, by decide +kernel⟩
abbrev s_Agree_told : Stmt := (inClass (top 14) 2)
abbrev n_Agree_told : List Str := ["self"]
theorem sc_Agree_told : FnScope ["self"] ["self"] (defScope s_Agree_told) := ⟨rfl, rfl, rfl, by decide +kernel, rfl, by decide +kernel, by decide +kernel⟩
abbrev s_law : Stmt := (top 40)
abbrev n_law : List Str := ["_law_script", "_law_state_here", "_law_halls", "_law_links", "_law_ground_here", "_law_deeds", "_law_wanted", "_law_left", "_law_turn", "_law_post", "_law_told", "_law_order_here", "_law_half", "_law_places", "_law_other", "_law_ahead", "_law_later", "_law_kept", "_law_door"]
theorem sc_law : FnScope ["_law_script", "_law_state_here", "_law_halls", "_law_links", "_law_ground_here", "_law_deeds", "_law_wanted", "_law_left", "_law_turn", "_law_post", "_law_told", "_law_order_here", "_law_half", "_law_places", "_law_other", "_law_ahead", "_law_later", "_law_kept", "_law_door"] ["_law_script"] (defScope s_law) := ⟨rfl, rfl, rfl, by decide +kernel, rfl, by decide +kernel, by decide +kernel⟩
def perm_0 {α : Type} : List α → List α := id
theorem perm_rel_0 {vs : List V} {us : List Value} {zs : List V} {ws : List Value} (h : Vals vs us) (k : Vals zs ws) : Vals (vs ++ perm_0 zs) (us ++ perm_0 ws) := h.append k
def perm_0_1 {α : Type} : List α → List α := id
theorem perm_rel_0_1 {vs : List V} {us : List Value} {zs : List V} {ws : List Value} (h : Vals vs us) (k : Vals zs ws) : Vals (vs ++ perm_0_1 zs) (us ++ perm_0_1 ws) := h.append k
def perm_1_0 {α : Type} : List α → List α
  | [x, y] => [y, x]
  | l => l
theorem perm_rel_1_0 {vs : List V} {us : List Value} {zs : List V} {ws : List Value} (h : Vals vs us) (k : Vals zs ws) : Vals (vs ++ perm_1_0 zs) (us ++ perm_1_0 ws) := by
  refine h.append ?_
  match zs, ws, k with
  | [], _, .nil => exact .nil
  | [x], _, .cons r .nil => exact .cons r .nil
  | [x, y], _, .cons r (.cons q .nil) => exact .cons q (.cons r .nil)
  | x :: y :: z :: t, _, .cons r (.cons q (.cons p l)) => exact .cons r (.cons q (.cons p l))
def perm_2_1_0 {α : Type} : List α → List α
  | [x, y, z] => [z, y, x]
  | l => l
theorem perm_rel_2_1_0 {vs : List V} {us : List Value} {zs : List V} {ws : List Value} (h : Vals vs us) (k : Vals zs ws) : Vals (vs ++ perm_2_1_0 zs) (us ++ perm_2_1_0 ws) := by
  refine h.append ?_
  match zs, ws, k with
  | [], _, .nil => exact .nil
  | [x], _, .cons r .nil => exact .cons r .nil
  | [x, y], _, .cons r (.cons q .nil) => exact .cons r (.cons q .nil)
  | [x, y, z], _, .cons r (.cons q (.cons p .nil)) => exact .cons p (.cons q (.cons r .nil))
  | x :: y :: z :: t :: l, _, .cons r (.cons q (.cons p (.cons o l2))) => exact .cons r (.cons q (.cons p (.cons o l2)))
structure Tx (K : PySem.W.Frag) (mg : Str → Option Value) where
  c_Letter : Addr
  g_Letter : mg "Letter" = some (.ref c_Letter)
  cl_Letter : Cls K c_Letter
  c_Say : Addr
  g_Say : mg "Say" = some (.ref c_Say)
  cl_Say : Cls K c_Say
  c_Agree : Addr
  g_Agree : mg "Agree" = some (.ref c_Agree)
  cl_Agree : Cls K c_Agree
  c_Net : Addr
  g_Net : mg "Net" = some (.ref c_Net)
  cl_Net : Cls K c_Net
  c_Post : Addr
  g_Post : mg "Post" = some (.ref c_Post)
  cl_Post : Cls K c_Post
  a_l_state : Addr
  d_l_state : FuncData
  F_l_state : Fun K "_law_state" "_law_state" s_l_state a_l_state d_l_state
  b_l_state : Binds K d_l_state ["_law_script"] []
  g_l_state : mg "_law_state" = some (.ref a_l_state)
  a_l_draw : Addr
  d_l_draw : FuncData
  F_l_draw : Fun K "_law_draw" "_law_draw" s_l_draw a_l_draw d_l_draw
  b_l_draw : Binds K d_l_draw ["_law_state_here", "_law_many"] []
  g_l_draw : mg "_law_draw" = some (.ref a_l_draw)
  a_l_alike : Addr
  d_l_alike : FuncData
  F_l_alike : Fun K "_law_alike" "_law_alike" s_l_alike a_l_alike d_l_alike
  b_l_alike : Binds K d_l_alike ["_law_one", "_law_other"] []
  g_l_alike : mg "_law_alike" = some (.ref a_l_alike)
  a_l_ground : Addr
  d_l_ground : FuncData
  F_l_ground : Fun K "_law_ground" "_law_ground" s_l_ground a_l_ground d_l_ground
  b_l_ground : Binds K d_l_ground ["_law_state_here", "_law_most_halls", "_law_most_links"] []
  g_l_ground : mg "_law_ground" = some (.ref a_l_ground)
  a_l_any_ground : Addr
  d_l_any_ground : FuncData
  F_l_any_ground : Fun K "_law_any_ground" "_law_any_ground" s_l_any_ground a_l_any_ground d_l_any_ground
  b_l_any_ground : Binds K d_l_any_ground ["_law_state_here"] []
  g_l_any_ground : mg "_law_any_ground" = some (.ref a_l_any_ground)
  a_l_beyond : Addr
  d_l_beyond : FuncData
  F_l_beyond : Fun K "_law_beyond" "_law_beyond" s_l_beyond a_l_beyond d_l_beyond
  b_l_beyond : Binds K d_l_beyond ["_law_links", "_law_at", "_law_end"] []
  g_l_beyond : mg "_law_beyond" = some (.ref a_l_beyond)
  a_l_letter : Addr
  d_l_letter : FuncData
  F_l_letter : Fun K "_law_letter" "_law_letter" s_l_letter a_l_letter d_l_letter
  b_l_letter : Binds K d_l_letter ["_law_state_here"] []
  g_l_letter : mg "_law_letter" = some (.ref a_l_letter)
  a_l_made : Addr
  d_l_made : FuncData
  F_l_made : Fun K "_law_made" "_law_made" s_l_made a_l_made d_l_made
  b_l_made : Binds K d_l_made ["_law_told"] []
  g_l_made : mg "_law_made" = some (.ref a_l_made)
  a_l_stands : Addr
  d_l_stands : FuncData
  F_l_stands : Fun K "_law_stands" "_law_stands" s_l_stands a_l_stands d_l_stands
  b_l_stands : Binds K d_l_stands ["_law_post", "_law_lanes"] []
  g_l_stands : mg "_law_stands" = some (.ref a_l_stands)
  a_l_row : Addr
  d_l_row : FuncData
  F_l_row : Fun K "_law_row" "_law_row" s_l_row a_l_row d_l_row
  b_l_row : Binds K d_l_row ["_law_state_here", "_law_links", "_law_many"] []
  g_l_row : mg "_law_row" = some (.ref a_l_row)
  a_l_order : Addr
  d_l_order : FuncData
  F_l_order : Fun K "_law_order" "_law_order" s_l_order a_l_order d_l_order
  b_l_order : Binds K d_l_order ["_law_state_here", "_law_deeds"] []
  g_l_order : mg "_law_order" = some (.ref a_l_order)
  a_l_done : Addr
  d_l_done : FuncData
  F_l_done : Fun K "_law_done" "_law_done" s_l_done a_l_done d_l_done
  b_l_done : Binds K d_l_done ["_law_post", "_law_links", "_law_deeds", "_law_order_here", "_law_places", "_law_told"] []
  g_l_done : mg "_law_done" = some (.ref a_l_done)
  a_l_due : Addr
  d_l_due : FuncData
  F_l_due : Fun K "_law_due" "_law_due" s_l_due a_l_due d_l_due
  b_l_due : Binds K d_l_due ["_law_deeds"] []
  g_l_due : mg "_law_due" = some (.ref a_l_due)
  a_l_same : Addr
  d_l_same : FuncData
  F_l_same : Fun K "_law_same" "_law_same" s_l_same a_l_same d_l_same
  b_l_same : Binds K d_l_same ["_law_told", "_law_wanted"] []
  g_l_same : mg "_law_same" = some (.ref a_l_same)
  a_is_number : Addr
  d_is_number : FuncData
  F_is_number : Fun K "is_number" "is_number" s_is_number a_is_number d_is_number
  b_is_number : Binds K d_is_number ["thing"] []
  g_is_number : mg "is_number" = some (.ref a_is_number)
  a__are_halls : Addr
  d__are_halls : FuncData
  F__are_halls : Fun K "_are_halls" "_are_halls" s__are_halls a__are_halls d__are_halls
  b__are_halls : Binds K d__are_halls ["things"] []
  g__are_halls : mg "_are_halls" = some (.ref a__are_halls)
  a__is_link : Addr
  d__is_link : FuncData
  F__is_link : Fun K "_is_link" "_is_link" s__is_link a__is_link d__is_link
  b__is_link : Binds K d__is_link ["thing", "halls"] []
  g__is_link : mg "_is_link" = some (.ref a__is_link)
  a__are_links : Addr
  d__are_links : FuncData
  F__are_links : Fun K "_are_links" "_are_links" s__are_links a__are_links d__are_links
  b__are_links : Binds K d__are_links ["things", "halls"] []
  g__are_links : mg "_are_links" = some (.ref a__are_links)
  a_Net___init__ : Addr
  d_Net___init__ : FuncData
  F_Net___init__ : Fun K "__init__" "Net.__init__" s_Net___init__ a_Net___init__ d_Net___init__
  b_Net___init__ : Binds K d_Net___init__ ["self", "halls", "links"] []
  m_Net : Mk K c_Net a_Net___init__
  a_Net_halls : Addr
  d_Net_halls : FuncData
  F_Net_halls : Fun K "halls" "Net.halls" s_Net_halls a_Net_halls d_Net_halls
  b_Net_halls : Binds K d_Net_halls ["self"] []
  me_Net_halls : Meth K c_Net "halls" a_Net_halls
  a_Net_links : Addr
  d_Net_links : FuncData
  F_Net_links : Fun K "links" "Net.links" s_Net_links a_Net_links d_Net_links
  b_Net_links : Binds K d_Net_links ["self"] []
  me_Net_links : Meth K c_Net "links" a_Net_links
  a_Net_most : Addr
  d_Net_most : FuncData
  F_Net_most : Fun K "most" "Net.most" s_Net_most a_Net_most d_Net_most
  b_Net_most : Binds K d_Net_most ["self"] []
  me_Net_most : Meth K c_Net "most" a_Net_most
  a_Net_doors : Addr
  d_Net_doors : FuncData
  F_Net_doors : Fun K "doors" "Net.doors" s_Net_doors a_Net_doors d_Net_doors
  b_Net_doors : Binds K d_Net_doors ["self", "hall"] []
  me_Net_doors : Meth K c_Net "doors" a_Net_doors
  a_Net__link : Addr
  d_Net__link : FuncData
  F_Net__link : Fun K "_link" "Net._link" s_Net__link a_Net__link d_Net__link
  b_Net__link : Binds K d_Net__link ["self", "link"] []
  me_Net__link : Meth K c_Net "_link" a_Net__link
  a_Net_beyond : Addr
  d_Net_beyond : FuncData
  F_Net_beyond : Fun K "beyond" "Net.beyond" s_Net_beyond a_Net_beyond d_Net_beyond
  b_Net_beyond : Binds K d_Net_beyond ["self", "link", "hall"] []
  me_Net_beyond : Meth K c_Net "beyond" a_Net_beyond
  a_Net_cost : Addr
  d_Net_cost : FuncData
  F_Net_cost : Fun K "cost" "Net.cost" s_Net_cost a_Net_cost d_Net_cost
  b_Net_cost : Binds K d_Net_cost ["self", "link"] []
  me_Net_cost : Meth K c_Net "cost" a_Net_cost
  a_Net_ends : Addr
  d_Net_ends : FuncData
  F_Net_ends : Fun K "ends" "Net.ends" s_Net_ends a_Net_ends d_Net_ends
  b_Net_ends : Binds K d_Net_ends ["self", "link"] []
  me_Net_ends : Meth K c_Net "ends" a_Net_ends
  a_Post___init__ : Addr
  d_Post___init__ : FuncData
  F_Post___init__ : Fun K "__init__" "Post.__init__" s_Post___init__ a_Post___init__ d_Post___init__
  b_Post___init__ : Binds K d_Post___init__ ["self", "net"] []
  m_Post : Mk K c_Post a_Post___init__
  a_Post___len__ : Addr
  d_Post___len__ : FuncData
  F_Post___len__ : Fun K "__len__" "Post.__len__" s_Post___len__ a_Post___len__ d_Post___len__
  b_Post___len__ : Binds K d_Post___len__ ["self"] []
  me_Post___len__ : Meth K c_Post "__len__" a_Post___len__
  a_Post_send : Addr
  d_Post_send : FuncData
  F_Post_send : Fun K "send" "Post.send" s_Post_send a_Post_send d_Post_send
  b_Post_send : Binds K d_Post_send ["self", "link", "hall", "letter"] []
  me_Post_send : Meth K c_Post "send" a_Post_send
  a_Post_first : Addr
  d_Post_first : FuncData
  F_Post_first : Fun K "first" "Post.first" s_Post_first a_Post_first d_Post_first
  b_Post_first : Binds K d_Post_first ["self", "link", "hall"] []
  me_Post_first : Meth K c_Post "first" a_Post_first
  a_Post_take : Addr
  d_Post_take : FuncData
  F_Post_take : Fun K "take" "Post.take" s_Post_take a_Post_take d_Post_take
  b_Post_take : Binds K d_Post_take ["self", "link", "hall"] []
  me_Post_take : Meth K c_Post "take" a_Post_take
  a_Post_waiting : Addr
  d_Post_waiting : FuncData
  F_Post_waiting : Fun K "waiting" "Post.waiting" s_Post_waiting a_Post_waiting d_Post_waiting
  b_Post_waiting : Binds K d_Post_waiting ["self"] []
  me_Post_waiting : Meth K c_Post "waiting" a_Post_waiting
  a_Post_rows : Addr
  d_Post_rows : FuncData
  F_Post_rows : Fun K "rows" "Post.rows" s_Post_rows a_Post_rows d_Post_rows
  b_Post_rows : Binds K d_Post_rows ["self"] []
  me_Post_rows : Meth K c_Post "rows" a_Post_rows
  a_Post_twin : Addr
  d_Post_twin : FuncData
  F_Post_twin : Fun K "twin" "Post.twin" s_Post_twin a_Post_twin d_Post_twin
  b_Post_twin : Binds K d_Post_twin ["self"] []
  me_Post_twin : Meth K c_Post "twin" a_Post_twin
  a_Post__row : Addr
  d_Post__row : FuncData
  F_Post__row : Fun K "_row" "Post._row" s_Post__row a_Post__row d_Post__row
  b_Post__row : Binds K d_Post__row ["self", "link", "hall"] []
  me_Post__row : Meth K c_Post "_row" a_Post__row
  a_Say___init__ : Addr
  d_Say___init__ : FuncData
  F_Say___init__ : Fun K "__init__" "Say.__init__" s_Say___init__ a_Say___init__ d_Say___init__
  b_Say___init__ : Binds K d_Say___init__ ["self", "number", "root", "far"] []
  m_Say : Mk K c_Say a_Say___init__
  a_Say___eq__ : Addr
  d_Say___eq__ : FuncData
  F_Say___eq__ : Fun K "__eq__" "Say.__eq__" s_Say___eq__ a_Say___eq__ d_Say___eq__
  b_Say___eq__ : Binds K d_Say___eq__ ["self", "other"] []
  me_Say___eq__ : Meth K c_Say "__eq__" a_Say___eq__
  a_Say_told : Addr
  d_Say_told : FuncData
  F_Say_told : Fun K "told" "Say.told" s_Say_told a_Say_told d_Say_told
  b_Say_told : Binds K d_Say_told ["self"] []
  me_Say_told : Meth K c_Say "told" a_Say_told
  a_Agree___init__ : Addr
  d_Agree___init__ : FuncData
  F_Agree___init__ : Fun K "__init__" "Agree.__init__" s_Agree___init__ a_Agree___init__ d_Agree___init__
  b_Agree___init__ : Binds K d_Agree___init__ ["self", "number"] []
  m_Agree : Mk K c_Agree a_Agree___init__
  a_Agree___eq__ : Addr
  d_Agree___eq__ : FuncData
  F_Agree___eq__ : Fun K "__eq__" "Agree.__eq__" s_Agree___eq__ a_Agree___eq__ d_Agree___eq__
  b_Agree___eq__ : Binds K d_Agree___eq__ ["self", "other"] []
  me_Agree___eq__ : Meth K c_Agree "__eq__" a_Agree___eq__
  a_Agree_told : Addr
  d_Agree_told : FuncData
  F_Agree_told : Fun K "told" "Agree.told" s_Agree_told a_Agree_told d_Agree_told
  b_Agree_told : Binds K d_Agree_told ["self"] []
  me_Agree_told : Meth K c_Agree "told" a_Agree_told
  a_law : Addr
  d_law : FuncData
  F_law : Fun K "law" "law" s_law a_law d_law
  b_law : Binds K d_law ["_law_script"] []
  g_law : mg "law" = some (.ref a_law)
  e_Say : EqC K c_Say a_Say___eq__
  q_Say : IsiC K c_Say
  e_Agree : EqC K c_Agree a_Agree___eq__
  q_Agree : IsiC K c_Agree
  kt_Say_Letter : PySem.W.kitOne K (.ref c_Say) (.ref c_Letter) = some true
  kt_Agree_Letter : PySem.W.kitOne K (.ref c_Agree) (.ref c_Letter) = some true
  kt_Say_Agree : PySem.W.kitOne K (.ref c_Say) (.ref c_Agree) = some false
  kt_Agree_Say : PySem.W.kitOne K (.ref c_Agree) (.ref c_Say) = some false
  sb_Say_Agree : PySem.W.subIn K (.ref c_Agree) (.ref c_Say) = some false
  sb_Agree_Say : PySem.W.subIn K (.ref c_Say) (.ref c_Agree) = some false
  n_Say_number : NoAttr K c_Say "number"
  n_Say_root : NoAttr K c_Say "root"
  n_Say_far : NoAttr K c_Say "far"
  n_Agree_number : NoAttr K c_Agree "number"
  n_Net__handed : NoAttr K c_Net "_handed"
  n_Net__rising : NoAttr K c_Net "_rising"
  n_Net__links : NoAttr K c_Net "_links"
  n_Post__net : NoAttr K c_Post "_net"
  n_Post__rows : NoAttr K c_Post "_rows"
  z_abs : mg "abs" = none
  z_len : mg "len" = none
  z_range : mg "range" = none
  z_list : mg "list" = none
  z_all : mg "all" = none
  z_isinstance : mg "isinstance" = none
  z_tuple : mg "tuple" = none
  z_int : mg "int" = none
  z_bool : mg "bool" = none
  z_str : mg "str" = none
  z_sorted : mg "sorted" = none
  z_dict : mg "dict" = none
  z_sum : mg "sum" = none
  z_set : mg "set" = none
  z_enumerate : mg "enumerate" = none
  t_MOST_HALLS : Tok
  v_MOST_HALLS : mg "MOST_HALLS" = some (.int (8) t_MOST_HALLS)
  t_MOST_LINKS : Tok
  v_MOST_LINKS : mg "MOST_LINKS" = some (.int (12) t_MOST_LINKS)
  t_LAST_HALL : Tok
  v_LAST_HALL : mg "LAST_HALL" = some (.int (999) t_LAST_HALL)
  t_MOST_COST : Tok
  v_MOST_COST : mg "MOST_COST" = some (.int (30) t_MOST_COST)
end K19

set_option maxHeartbeats 2000000
namespace K19
open PySem PySem.Spec PyProof.Rows L2 Evl MyG
/-! ### the drawing state: a list [cells, place, last] at s, the cells at c -/
structure Sta (s c : Addr) (H : Hp) : Prop where
  ne : s ≠ c
  ex : ∃ (cells : List Int) (i j : Int), H s = some (.lst [.ref c, .int i, .int j]) ∧ H c = some (.lst (cells.map V.int)) ∧ cells ≠ [] ∧ (∀ x ∈ cells, 0 ≤ x) ∧ 0 ≤ i ∧ 0 ≤ j ∧ j < 2147483647
def Off (s c : Addr) (H H' : Hp) : Prop := ∀ a, a ≠ s → a ≠ c → H' a = H a
def sp_state (K : PySem.W.Frag) : Sp := fun vs H Q _ => ∃ (a : Addr) (ns : List Int), vs = [.ref a] ∧ SqL K H a (ns.map V.int) ∧ ns.length ≤ 63 ∧ ∀ s c H', Ex H H' → H s = none → H c = none → Sta s c H' → Q (.ref s) H'
def sp_draw : Sp := fun vs H Q _ => ∃ (s c : Addr) (m : Int), vs = [.ref s, .int m] ∧ Sta s c H ∧ 0 < m ∧ m < 1073741824 ∧ ∀ r H', 0 ≤ r → r < m → Sta s c H' → Off s c H H' → Q (.int r) H'
theorem fmod_bd {a m : Int} (h : 0 < m) : 0 ≤ a.fmod m ∧ a.fmod m < m := ⟨Int.fmod_nonneg_of_pos a h, Int.fmod_lt_of_pos a h⟩
theorem ints_at {ns : List Int} {k : Int} (h0 : 0 ≤ k) (h1 : k < (ns.length : Int)) : ∃ x, ns[k.toNat]? = some x ∧ atI (ns.map V.int) k = some (.int x) ∧ x ∈ ns := by
  have hk : k.toNat < ns.length := by omega
  refine ⟨ns[k.toNat], List.getElem?_eq_getElem hk, ?_, List.getElem_mem hk⟩
  refine at_of (j := k.toNat) (by omega) ?_
  rw [List.getElem?_map, List.getElem?_eq_getElem hk]
  rfl
theorem map_set_int (ns : List Int) (j : Nat) (y : Int) : (ns.map V.int).set j (.int y) = (ns.set j y).map V.int := by
  rw [List.map_set]
theorem mem_set {ns : List Int} {j : Nat} {y : Int} (h : ∀ x ∈ ns, 0 ≤ x) (hy : 0 ≤ y) : ∀ x ∈ ns.set j y, 0 ≤ x := fun x hx => by
  rcases List.mem_or_eq_of_mem_set hx with e | e
  · exact h x e
  · rw [e]; exact hy
theorem go_L {te : TE} {σ : L2.St} {H : Hp} {xs : List V} {Q : VK} (h : EvL te σ H xs) (k : ∀ p H1, H p = none → Ex H H1 → H1 p = some (.lst xs) → Q (.ref p) H1) : te σ H Q := h H (Ex.refl H) Q k
theorem go_U {te : TE} {σ : L2.St} {H : Hp} {xs : List V} {Q : VK} (h : EvU te σ H xs) (k : ∀ p H1, H p = none → Ex H H1 → H1 p = some (.tup xs) → Q (.ref p) H1) : te σ H Q := h H (Ex.refl H) Q k
theorem go_V {te : TE} {σ : L2.St} {H : Hp} {v : V} {Q : VK} (h : Ev te σ H v) (k : ∀ H1, Ex H H1 → Q v H1) : te σ H Q := h H (Ex.refl H) Q k
section
variable {P : Program} {w : World} {K : PySem.W.Frag} {mg : Str → Option Value} {base : Heap}
theorem ok_draw (T : Tx K mg) : FnOk P w K mg base CX0 1 T.a_l_draw T.d_l_draw ["_law_state_here", "_law_many"] sp_draw := by
  refine T.F_l_draw.ok sc_l_draw (fun vs H Q E h => ?_) (fun cdv A outer s H vs Q E hr h => ?_)
  · obtain ⟨_, _, _, rfl, _⟩ := h
    rfl
  · obtain ⟨s, c, m, rfl, hst, hm0, hm1, q⟩ := h
    refine ⟨_, (pss_cons (ps_set (i := 2) sc_l_draw.nd rfl (Or.inl rfl) (pe_ix (ix_listK (K := K) rfl) (pv 0) pe_int (fun _ _ => rfl)))
  (pss_cons (ps_set (i := 3) sc_l_draw.nd rfl (Or.inl rfl) (pe_op op_modN (pe_ix (ix_listK (K := K) rfl) (pv 0) pe_int (fun _ _ => rfl)) (pe_callB (lenK (K := K) rfl) (by rfl) T.z_len (by decide +kernel) (pa_cons (pv 2) pa_nil))))
  (pss_cons (ps_set (i := 4) sc_l_draw.nd rfl (Or.inl rfl) (pe_ix (ix_listK (K := K) rfl) (pv 2) (pv 3) (fun _ _ => rfl)))
  (pss_cons (ps_if (pt_cmpR op_ge (pv 4) pe_int (nomark _)) (pss_cons (ps_asg (pe_op op_fdivN (pv 4) (pv 1)) (pg_sub (pv 2) (pv 3) set_list))
  (pss_one (ps_ret (pe_op op_modN (pv 4) (pv 1))))) pss_nil)
  (pss_cons (ps_asg (pe_op op_add (pe_ix (ix_listK (K := K) rfl) (pv 0) pe_int (fun _ _ => rfl)) pe_int) (pg_sub (pv 0) pe_int set_list))
  (pss_cons (ps_asg (pe_op op_modN (pe_op op_add (pe_op op_add (pe_op op_mul (pe_ix (ix_listK (K := K) rfl) (pv 0) pe_int (fun _ _ => rfl)) pe_int) (pv 4)) pe_int) pe_int) (pg_sub (pv 0) pe_int set_list))
  (pss_one (ps_ret (pe_op op_modN (pe_op op_fdivN (pe_op op_modN (pe_op op_mul (pe_ix (ix_listK (K := K) rfl) (pv 0) pe_int (fun _ _ => rfl)) (pe_ix (ix_listK (K := K) rfl) (pv 0) pe_int (fun _ _ => rfl))) pe_int) pe_int) (pv 1)))))))))), ?_⟩
    obtain ⟨nsc, cells, i, j, hs, hc, hne, hpos, hi, hj0, hj1⟩ := hst
    have hlen : 0 < (cells.length : Int) := by
      have := List.length_pos_iff.mpr hne
      omega
    -- cells = state[0]; at = state[1] % len(cells)
    refine ⟨_, rfl, s, _, 0, _, rfl, rfl, SqL.of hs, atI_nat (j := 0) rfl, _, rfl, s, _, 1, _, rfl, rfl, SqL.of hs, atI_nat (j := 1) rfl, _, rfl, c, _, rfl, .inl (SqL.of hc), _, _, rfl, rfl, ?_, ?_⟩
    · rw [List.length_map]; omega
    rw [List.length_map]
    have hat := fmod_bd (a := i) hlen
    generalize hdef : i.fmod (cells.length : Int) = at_ at hat
    obtain ⟨x, hx, hxa, hxm⟩ := ints_at hat.1 hat.2
    have hx0 := hpos x hxm
    -- cell = cells[at]
    refine ⟨_, rfl, _, rfl, c, _, at_, _, rfl, congrArg V.int hdef, SqL.of hc, hxa, ?_⟩
    -- if cell >= ..
    refine ⟨_, rfl, x, _, rfl, rfl, _, rfl, ite2 (fun _ => ?_) (fun _ => ?_)⟩
    · -- cells[at] = cell // many
      refine ⟨_, rfl, _, rfl, x, m, rfl, rfl, ⟨by omega, by omega⟩, _, rfl, _, rfl, c, _, at_, at_.toNat, rfl, congrArg V.int hdef, hc, ?_, ?_⟩
      · have e : at_ = (at_.toNat : Int) := by omega
        rw [e]
        exact Evl.ixN_nat (by rw [List.length_map]; omega)
      refine ⟨_, rfl, _, rfl, x, m, rfl, rfl, by omega, ?_⟩
      have hb := fmod_bd (a := x) hm0
      refine q _ _ hb.1 hb.2 ⟨nsc, cells.set at_.toNat (x.fdiv m), i, j, ?_, ?_, ?_, ?_, hi, hj0, hj1⟩ (fun a ha hac => upd_ne hac)
      · rw [upd_ne nsc]; exact hs
      · rw [upd_same, map_set_int]
      · exact fun z => hne (by simpa using z)
      · refine mem_set hpos ?_
        rw [Int.fdiv_eq_ediv_of_nonneg _ (by omega)]
        exact Int.ediv_nonneg hx0 (by omega)
    · -- state[1] = state[1] + 1
      refine ⟨_, rfl, s, _, 1, _, rfl, rfl, SqL.of hs, atI_nat (j := 1) rfl, _, _, rfl, rfl, _, rfl, s, _, 1, 1, rfl, rfl, hs, Evl.ixN_nat (j := 1) (by show 1 < 3; decide), ?_⟩
      have hs1 : (upd H s (.lst ([V.ref c, .int i, .int j].set 1 (.int (i + 1))))) s = some (.lst [.ref c, .int (i + 1), .int j]) := upd_same
      -- state[2] = ..
      refine ⟨_, rfl, s, _, 2, _, rfl, rfl, SqL.of hs1, atI_nat (j := 2) rfl, _, _, rfl, rfl, .inl ⟨by omega, by omega⟩, _, rfl, _, _, rfl, rfl, _, _, rfl, rfl, _, _, rfl, rfl, (by show (2147483647 : Int) ≠ 0; decide), _, rfl, s, _, 2, 2, rfl, rfl, hs1, Evl.ixN_nat (j := 2) (by show 2 < 3; decide), ?_⟩
      have hb := fmod_bd (a := j * 69621 + x + 7919) (m := 2147483647) (by decide)
      generalize hdj : (j * 69621 + x + 7919).fmod 2147483647 = j' at hb
      have hs2 : (upd (upd H s (.lst ([V.ref c, .int i, .int j].set 1 (.int (i + 1))))) s (.lst ([V.ref c, .int (i + 1), .int j].set 2 (.int ((j * 69621 + x + 7919).fmod 2147483647))))) s = some (.lst [.ref c, .int (i + 1), .int j']) := by
        rw [upd_same, hdj]
        rfl
      -- return ..
      refine ⟨_, rfl, s, _, 2, _, rfl, rfl, SqL.of hs2, atI_nat (j := 2) rfl, _, rfl, s, _, 2, _, rfl, rfl, SqL.of hs2, atI_nat (j := 2) rfl, _, _, rfl, rfl, .inl ⟨by omega, by omega⟩, _, _, rfl, rfl, (by show (2147483587 : Int) ≠ 0; decide), _, _, rfl, rfl, ⟨by show (8 : Int) ≠ 0; decide, by show (8 : Int).natAbs < 1073741824; decide⟩, _, rfl, _, _, rfl, rfl, by omega, ?_⟩
      have hb2 := fmod_bd (a := ((j' * j').fmod 2147483587).fdiv 8) hm0
      refine q _ _ hb2.1 hb2.2 ⟨nsc, cells, i + 1, j', hs2, ?_, hne, hpos, by omega, hb.1, hb.2⟩ (fun a ha hac => ?_)
      · rw [upd_ne nsc.symm, upd_ne nsc.symm]; exact hc
      · rw [upd_ne ha, upd_ne ha]
/-! ### the first state -/
theorem ok_state (T : Tx K mg) : FnOk P w K mg base CX0 1 T.a_l_state T.d_l_state ["_law_script"] (sp_state K) := by
  refine T.F_l_state.ok sc_l_state (fun vs H Q E h => ?_) (fun cdv A outer s H vs Q E hr h => ?_)
  · obtain ⟨_, _, rfl, _⟩ := h
    rfl
  · obtain ⟨a, ns, rfl, hS, hlen, q⟩ := h
    refine ⟨_, (pss_one (ps_ret (pe_lst (pa_cons (orTK (K := K) rfl (pe_lc (own := [("_law_cell", 1)]) (g := (gName 1)) (tt := tYes) rfl sc_l_state.nd (iListK (K := K) rfl (pe_slice (sl_listK (K := K) rfl) (pv 0) po_none (po_some pe_int))) (blkOk_by (N := n_l_state) (sc := defScope s_l_state) (by decide +kernel)) (fun _ _ _ _ _ => (pg_name (i := 1) sc_l_state.nd rfl (Or.inl rfl))) (fun _ _ _ _ _ => pts_nil) (fun _ _ _ _ _ => (pe_callB call_abs (by rfl) T.z_abs (by decide +kernel) (pa_cons (pv 1) pa_nil)))) (pe_one (pe_lst (pa_cons pe_int pa_nil)))) (pa_cons pe_int (pa_cons pe_int pa_nil)))))), ?_⟩
    generalize hg : ns.map (fun i => if i < 0 then -i else i) = cells
    have pos : ∀ x ∈ cells, 0 ≤ x := fun x hx => by
      rw [← hg] at hx
      obtain ⟨y, _, rfl⟩ := List.mem_map.mp hx
      split <;> omega
    refine un_ret (un_lst (un_cons ?_))
    refine go_L (el_or (xs := cells.map V.int) (ys := [.int 7]) (el_mapF (xs := ns.map V.int) ?_ (by rw [List.length_map]; omega) (by rw [← hg]; simp) (fun x => rfl) (fun i x y H1 e hx hy => ?_)) (fun _ => el_lst (ea_cons ev_c ea_nil) (by decide))) (fun c H1 hc e1 h1 => ?_)
    · have k := el_sl (K := K) (lo := none) (hi := some ((63 : Nat) : Int)) (te := tVar 0) (ev_var (σ := L2.start [Str.ofString "_law_script", Str.ofString "_law_cell"] [V.ref a]) (H := H) rfl) eo_none (eo_some ev_c) hS
      rw [cut_all _ (by rw [List.length_map]; exact hlen)] at k
      exact k
    · rw [← hg, List.getElem?_map, List.getElem?_map] at hy
      rw [List.getElem?_map] at hx
      cases hi : ns[i]? with
      | none =>
        rw [hi] at hx
        cases hx
      | some z =>
        rw [hi] at hx hy
        obtain rfl := Option.some.inj hx
        obtain rfl := Option.some.inj hy
        exact fun H2 e2 Q q => ⟨_, rfl, z, rfl, q _ (Ex.refl _)⟩
    · refine ⟨by show 3 ≤ sizeLine; decide, fun p hp => ?_⟩
      have n2 : c ≠ p := ne_of_none h1 hp
      obtain ⟨cs, hcs, hne, hps⟩ : ∃ cs : List Int, (if (cells.map V.int).isEmpty then [V.int 7] else cells.map V.int) = cs.map V.int ∧ cs ≠ [] ∧ ∀ x ∈ cs, 0 ≤ x := by
        cases cells with
        | nil => exact ⟨[7], rfl, by decide, by decide⟩
        | cons x r => exact ⟨x :: r, rfl, by simp, pos⟩
      rw [hcs] at h1
      exact q p c _ (e1.trans (Ex.new hp)) (fresh_back e1 hp) hc ⟨n2.symm, cs, 0, 1, upd_same, by rw [upd_ne n2]; exact h1, hne, hps, by decide, by decide, by decide⟩
end
end K19

set_option maxHeartbeats 2000000
namespace K19
open PySem PySem.Spec PyProof.Rows L2 Evl MyG
section
variable {P : Program} {w : World} {K : PySem.W.Frag} {mg : Str → Option Value} {base : Heap}
theorem ok_alike (T : Tx K mg) : ∀ k, FnOk P w K mg base CX0 k T.a_l_alike T.d_l_alike ["_law_one", "_law_other"] (sp_alike k)
  | 0 => ⟨fun vs H Q E h => by obtain ⟨_, _, d, rfl, _⟩ := h; rfl, fun A st s H c us vs Q E r e b rel h => by
      obtain ⟨_, _, d, _, _, _, z, _⟩ := h
      exact absurd z (by simp [alk])⟩
  | k + 1 => by
    have G_l_alike := ok_alike T k
    refine T.F_l_alike.ok sc_l_alike (fun vs H Q E h => ?_) (fun cdv A outer s H vs Q E hr h => ?_)
    · obtain ⟨_, _, d, rfl, _⟩ := h
      rfl
    · obtain ⟨x, y, d, rfl, hx, hy, ha, q⟩ := h
      refine ⟨_, (pss_cons (ps_if (pt_val (pe_callB (isiTK (K := K) rfl) (by rfl) T.z_isinstance (by decide +kernel) (pa_cons (pv 1) (pa_cons (pe_tup (pa_cons (pe_bltn (v := .ty "list") (by rfl) T.z_list (by decide +kernel) rfl) (pa_cons (pe_bltn (v := .ty "tuple") (by rfl) T.z_tuple (by decide +kernel) rfl) pa_nil))) pa_nil)))) (pss_cons (ps_if (PW.pt (pw_or (pt_cmpR op_ne (pe_callB (isiK (K := K) rfl) (by rfl) T.z_isinstance (by decide +kernel) (pa_cons (pv 0) (pa_cons (pe_bltn (v := .ty "list") (by rfl) T.z_list (by decide +kernel) rfl) pa_nil))) (pe_callB (isiK (K := K) rfl) (by rfl) T.z_isinstance (by decide +kernel) (pa_cons (pv 1) (pa_cons (pe_bltn (v := .ty "list") (by rfl) T.z_list (by decide +kernel) rfl) pa_nil))) (nomark _)) (pw_or1 (pt_cmpR op_ne (pe_callB (isiK (K := K) rfl) (by rfl) T.z_isinstance (by decide +kernel) (pa_cons (pv 0) (pa_cons (pe_bltn (v := .ty "tuple") (by rfl) T.z_tuple (by decide +kernel) rfl) pa_nil))) (pe_callB (isiK (K := K) rfl) (by rfl) T.z_isinstance (by decide +kernel) (pa_cons (pv 1) (pa_cons (pe_bltn (v := .ty "tuple") (by rfl) T.z_tuple (by decide +kernel) rfl) pa_nil))) (nomark _))))) (pss_one (ps_ret pe_bl)) pss_nil)
  (pss_one (ps_ret (pe_and (pe_cmpR op_eq (pe_callB (lenK (K := K) rfl) (by rfl) T.z_len (by decide +kernel) (pa_cons (pv 0) pa_nil)) (pe_callB (lenK (K := K) rfl) (by rfl) T.z_len (by decide +kernel) (pa_cons (pv 1) pa_nil)) (nomark _)) (pe_one (pe_callB (allK (K := K) rfl rfl) (by rfl) T.z_all (by decide +kernel) (pa_cons (pe_lc (own := [("_law_k", 2)]) (g := (gName 2)) (tt := tYes) rfl sc_l_alike.nd (pi_range1 rfl T.z_range (pa_cons (pe_callB (lenK (K := K) rfl) (by rfl) T.z_len (by decide +kernel) (pa_cons (pv 1) pa_nil)) pa_nil)) (blkOk_by (N := n_l_alike) (sc := defScope s_l_alike) (by decide +kernel)) (fun _ _ _ _ _ => (pg_name (i := 2) sc_l_alike.nd rfl (Or.inl rfl))) (fun _ _ _ _ _ => pts_nil) (fun _ _ _ _ _ => (pe_call G_l_alike hr (by rfl) T.g_l_alike T.F_l_alike.kp T.b_l_alike .nil pass0 (pa_cons (pe_either (pe_ix (ix_listK (K := K) rfl) (pv 0) (pv 2) (fun _ _ => rfl)) (pe_ix (ix_tupK (K := K) rfl) (pv 0) (pv 2) (fun _ _ => rfl))) (pa_cons (pe_either (pe_ix (ix_listK (K := K) rfl) (pv 1) (pv 2) (fun _ _ => rfl)) (pe_ix (ix_tupK (K := K) rfl) (pv 1) (pv 2) (fun _ _ => rfl))) pa_nil))))) pa_nil))))))) pss_nil)
  (pss_cons (ps_if (pt_val (pe_callB (isiK (K := K) rfl) (by rfl) T.z_isinstance (by decide +kernel) (pa_cons (pv 1) (pa_cons (pe_bltn (v := .ty "str") (by rfl) T.z_str (by decide +kernel) rfl) pa_nil)))) (pss_one (ps_ret (pe_and (pe_callB (isiK (K := K) rfl) (by rfl) T.z_isinstance (by decide +kernel) (pa_cons (pv 0) (pa_cons (pe_bltn (v := .ty "str") (by rfl) T.z_str (by decide +kernel) rfl) pa_nil))) (pe_one (pe_cmpR op_eq (pv 0) (pv 1) (nomark _)))))) pss_nil)
  (pss_cons (ps_if (PW.pt (pw_or (pt_cmpR op_isN (pv 0) pe_non (nomark _)) (pw_or1 (pt_cmpR op_isN (pv 1) pe_non (nomark _))))) (pss_one (ps_ret (pe_and (pe_cmpR op_isN (pv 0) pe_non (nomark _)) (pe_one (pe_cmpR op_isN (pv 1) pe_non (nomark _)))))) pss_nil)
  (pss_cons (ps_if (pt_cmpR op_ne (pe_callB (isiK (K := K) rfl) (by rfl) T.z_isinstance (by decide +kernel) (pa_cons (pv 0) (pa_cons (pe_bltn (v := .ty "bool") (by rfl) T.z_bool (by decide +kernel) rfl) pa_nil))) (pe_callB (isiK (K := K) rfl) (by rfl) T.z_isinstance (by decide +kernel) (pa_cons (pv 1) (pa_cons (pe_bltn (v := .ty "bool") (by rfl) T.z_bool (by decide +kernel) rfl) pa_nil))) (nomark _)) (pss_one (ps_ret pe_bl)) pss_nil)
  (pss_one (ps_ret (pe_and (pe_callB (isiK (K := K) rfl) (by rfl) T.z_isinstance (by decide +kernel) (pa_cons (pv 0) (pa_cons (pe_bltn (v := .ty "int") (by rfl) T.z_int (by decide +kernel) rfl) pa_nil))) (pe_and (pe_callB (isiK (K := K) rfl) (by rfl) T.z_isinstance (by decide +kernel) (pa_cons (pv 1) (pa_cons (pe_bltn (v := .ty "int") (by rfl) T.z_int (by decide +kernel) rfl) pa_nil))) (pe_one (pe_cmpR op_eq (pv 0) (pv 1) (nomark _))))))))))), ?_⟩
      have lay : ∀ {p r : Addr} {xs ys : List V} {ds : List PyData} {b : Bool}, x = .ref p → y = .ref r → (H p = some (.lst xs) ∨ H p = some (.tup xs)) → (H r = some (.lst ys) ∨ H r = some (.tup ys)) → DqAll H xs ds → DqAll H ys ds → ds.length ≤ 1000 → ds.all (alk k) = true →
          ∀ H1, Ex H H1 → tRet
          (tAndV (tOp rEq (tCB (rLenQ K) (tCons (tVar 0) tNil)) (tCB (rLenQ K) (tCons (tVar 1) tNil)))
            (tCB (rAll K)
              (tCons
                (tLc (iRng1 (tCons (tCB (rLenQ K) (tCons (tVar 1) tNil)) tNil)) (gName 2) tYes
                  (tCall (sp_alike k) [] E0
                    (tCons (tEi (tOp (rIxL K) (tVar 0) (tVar 2)) (tOp (rIxT K) (tVar 0) (tVar 2)))
                      (tCons (tEi (tOp (rIxL K) (tVar 1) (tVar 2)) (tOp (rIxT K) (tVar 1) (tVar 2))) tNil)))
                  [2])
                tNil))) { nx := fun x H' => Q V.non H', rt := Q } [some x, some y, none] H1 := by
        intro p r xs ys ds b ex ey hp hr0 hds hes hl hk H1 e1
        subst ex ey
        have lx := hds.len
        have ly := hes.len
        have hp1 : H1 p = some (.lst xs) ∨ H1 p = some (.tup xs) := hp.elim (fun z => .inl (e1 _ _ z)) (fun z => .inr (e1 _ _ z))
        have hr1 : H1 r = some (.lst ys) ∨ H1 r = some (.tup ys) := hr0.elim (fun z => .inl (e1 _ _ z)) (fun z => .inr (e1 _ _ z))
        refine s_ret (v := .bl true) (ev_is (ev_andV (a := true) (b := true) (ev_is (ev_op (ev_lenA (ev_var rfl) hp1) (ev_lenA (ev_var rfl) hr1) (rv_eq rfl)) ?_) fun _ => ev_is (ev_allN (bs := List.replicate ys.length true) (el_mapR (ys := (List.replicate ys.length true).map V.bl) (ea_cons (ev_is (ev_lenA (ev_var rfl) hr1) (by simp)) ea_nil) (by simp; omega) (fun x => rfl) ?_)) ?_) rfl) fun H2 e2 => q H2 (e1.trans e2)
        · rw [lx, ly, decide_eq_true rfl]
        · intro i v H2 e2 hv
          rw [List.map_replicate] at hv
          obtain ⟨hi, rfl⟩ : i < ys.length ∧ V.bl true = v := by
            obtain ⟨h1, h2⟩ := List.getElem?_eq_some_iff.mp hv
            rw [List.getElem_replicate] at h2
            exact ⟨by simpa using h1, h2⟩
          have hix : i < xs.length := by omega
          obtain ⟨d1, h1, h2⟩ := hds.at (List.getElem?_eq_getElem hix)
          obtain ⟨d2, h3, h4⟩ := hes.at (List.getElem?_eq_getElem hi)
          rw [h1] at h3
          obtain rfl := Option.some.inj h3
          have hp2 : H2 p = some (.lst xs) ∨ H2 p = some (.tup xs) := hp1.elim (fun z => .inl (e2 _ _ z)) (fun z => .inr (e2 _ _ z))
          have hr2 : H2 r = some (.lst ys) ∨ H2 r = some (.tup ys) := hr1.elim (fun z => .inl (e2 _ _ z)) (fun z => .inr (e2 _ _ z))
          refine ev_call (ea_cons (ev_ixq hp2 (ev_var rfl) (ev_var rfl) (List.getElem?_eq_getElem hix)) (ea_cons (ev_ixq hr2 (ev_var rfl) (ev_var rfl) (List.getElem?_eq_getElem hi)) ea_nil)) ?_
          exact fun H3 e3 Q q E => ⟨_, _, d1, rfl, h2.ext ((e1.trans e2).trans e3), h4.ext ((e1.trans e2).trans e3), List.all_eq_true.mp hk _ (List.mem_of_getElem? h1), q⟩
        · simp
      have ne0 : ∀ {t u : String} {H2 : Hp} {a b : V}, AnyT H2 x t → AnyT H2 y t → EvT (tTest (tOp rNe (tCB (rIsi K) (tCons (tVar 0) (tCons (tC (V.ty "list")) tNil))) (tCB (rIsi K) (tCons (tVar 1) (tCons (tC (V.ty "list")) tNil))))) [some x, some y, none] H2 false := fun h1 h2 =>
        et_is (et_test (ev_op (ev_isi_list (ev_var rfl) h1) (ev_isi_list (ev_var rfl) h2) (rv_ne rfl))) (by simp)
      have ne1 : ∀ {t u : String} {H2 : Hp} {a b : V}, AnyT H2 x t → AnyT H2 y t → EvT (tTest (tOp rNe (tCB (rIsi K) (tCons (tVar 0) (tCons (tC (V.ty "tuple")) tNil))) (tCB (rIsi K) (tCons (tVar 1) (tCons (tC (V.ty "tuple")) tNil))))) [some x, some y, none] H2 false := fun h1 h2 =>
        et_is (et_test (ev_op (ev_isi_tuple (ev_var rfl) h1) (ev_isi_tuple (ev_var rfl) h2) (rv_ne rfl))) (by simp)
      have flat : ∀ (H0 : Hp), Ex H H0 → ∀ {t : String}, AnyT H0 x t → AnyT H0 y t → x = y → scal x y = true → (t == "list" || t == "tuple") = false → (t = "str" ∨ t = "NoneType" ∧ x = .non ∨ (t = "int" ∨ t = "bool") ∧ x ≠ .non) → tSeq
            (tIfS (tB (tCB (rIsi K) (tCons (tVar 1) (tCons (tC (V.ty "str")) tNil))))
              (tRet (tAndV (tCB (rIsi K) (tCons (tVar 0) (tCons (tC (V.ty "str")) tNil))) (tOp rEq (tVar 0) (tVar 1)))) tNext)
            (tSeq
              (tIfS
                (tOr (tTest (tOp (fun x y H Q => y = V.non ∧ Q (V.bl (decide (x = V.non))) H) (tVar 0) (tC V.non)))
                  (tTest (tOp (fun x y H Q => y = V.non ∧ Q (V.bl (decide (x = V.non))) H) (tVar 1) (tC V.non))))
                (tRet
                  (tAndV (tOp (fun x y H Q => y = V.non ∧ Q (V.bl (decide (x = V.non))) H) (tVar 0) (tC V.non))
                    (tOp (fun x y H Q => y = V.non ∧ Q (V.bl (decide (x = V.non))) H) (tVar 1) (tC V.non))))
                tNext)
              (tSeq
                (tIfS
                  (tTest
                    (tOp rNe (tCB (rIsi K) (tCons (tVar 0) (tCons (tC (V.ty "bool")) tNil)))
                      (tCB (rIsi K) (tCons (tVar 1) (tCons (tC (V.ty "bool")) tNil)))))
                  (tRet (tC (V.bl false))) tNext)
                (tRet
                  (tAndV (tCB (rIsi K) (tCons (tVar 0) (tCons (tC (V.ty "int")) tNil)))
                    (tAndV (tCB (rIsi K) (tCons (tVar 1) (tCons (tC (V.ty "int")) tNil))) (tOp rEq (tVar 0) (tVar 1)))))))
               { nx := fun x H' => Q V.non H', rt := Q } [some x, some y, none] H0 := by
        intro H0 e0 t h1 h2 exy sc _ hk
        subst exy
        rcases hk with rfl | ⟨rfl, rfl⟩ | ⟨hk, hn⟩
        · refine q_if (b := true) (et_is (et_B (ev_isi_str (ev_var rfl) h2)) rfl) (fun _ H1 e1 => ?_) (fun z => nomatch z)
          exact s_ret (v := .bl true) (ev_is (ev_andV (a := true) (b := true) (ev_isi_str (ev_var rfl) (h1.ext e1)) fun _ => ev_is (ev_op (ev_var rfl) (ev_var rfl) (rv_eq sc)) (by simp)) rfl) fun H2 e2 => q H2 (e0.trans (e1.trans e2))
        · refine q_when (b := false) (et_is (et_B (ev_isi_str (ev_var rfl) h2)) rfl) (fun z => nomatch z) fun _ H1 e1 => ?_
          refine q_if (b := true) (et_is (et_or (a := true) (b := true) (et_test (ev_is (ev_isN (ev_var rfl)) rfl)) (fun z => nomatch z)) rfl) (fun _ H2 e2 => ?_) (fun z => nomatch z)
          exact s_ret (v := .bl true) (ev_is (ev_andV (a := true) (b := true) (ev_is (ev_isN (ev_var rfl)) rfl) fun _ => ev_is (ev_isN (ev_var rfl)) rfl) rfl) fun H3 e3 => q H3 (e0.trans ((e1.trans e2).trans e3))
        · refine q_when (b := false) (et_is (et_B (ev_isi_str (ev_var rfl) h2)) (by rcases hk with rfl | rfl <;> rfl)) (fun z => nomatch z) fun _ H1 e1 => ?_
          refine q_when (b := false) (et_is (et_or (a := false) (b := false) (et_test (ev_is (ev_isN (ev_var rfl)) (by rw [decide_eq_false hn]))) (fun _ => et_test (ev_is (ev_isN (ev_var rfl)) (by rw [decide_eq_false hn])))) rfl) (fun z => nomatch z) fun _ H2 e2 => ?_
          refine q_when (b := false) (et_is (et_test (ev_op (ev_isi_bool (ev_var rfl) ((h1.ext e1).ext e2)) (ev_isi_bool (ev_var rfl) ((h2.ext e1).ext e2)) (rv_ne rfl))) (by simp)) (fun z => nomatch z) fun _ H3 e3 => ?_
          have i3 : ∀ {i : Nat}, [some x, some x, none][i]? = some (some x) → Ev (tCB (rIsi K) (tCons (tVar i) (tCons (tC (V.ty "int")) tNil))) [some x, some x, none] H3 (.bl true) := fun hi => ev_is (ev_isi_int (ev_var hi) (((h1.ext e1).ext e2).ext e3)) (by rcases hk with rfl | rfl <;> rfl)
          exact s_ret (v := .bl true) (ev_is (ev_andV (a := true) (b := true) (i3 rfl) fun _ => ev_is (ev_andV (a := true) (b := true) (i3 rfl) fun _ => ev_is (ev_op (ev_var rfl) (ev_var rfl) (rv_eq sc)) (by simp)) rfl) rfl) fun H4 e4 => q H4 (e0.trans (((e1.trans e2).trans e3).trans e4))
      have first : ∀ {t : String} {b : Bool}, AnyT H y t → (t == "list" || t == "tuple") = b → EvT (tB
        (tCB (rIsiT K)
          (tCons (tVar 1) (tCons (tTup (tCons (tC (V.ty "list")) (tCons (tC (V.ty "tuple")) tNil))) tNil)))) [some x, some y, none] H b := fun h e => et_is (et_B (ev_isiLT (ev_var rfl) h)) e
      cases hx with
      | lst h1 a1 =>
        cases hy with
        | lst h2 a2 =>
          simp only [alk, Bool.and_eq_true, decide_eq_true_eq] at ha
          refine q_if (b := true) (first (.lst h2) rfl) (fun _ H1 e1 => ?_) (fun z => nomatch z)
          refine q_when (b := false) (et_or (a := false) (b := false) (ne0 (u := "") (a := .non) (b := .non) (.lst (e1 _ _ h1)) (.lst (e1 _ _ h2))) (fun _ => ne1 (u := "") (a := .non) (b := .non) (.lst (e1 _ _ h1)) (.lst (e1 _ _ h2)))) (fun z => nomatch z) fun _ H2 e2 => ?_
          exact lay (b := true) rfl rfl (.inl h1) (.inl h2) a1 a2 ha.1 ha.2 H2 (e1.trans e2)
      | tup h1 a1 =>
        cases hy with
        | tup h2 a2 =>
          simp only [alk, Bool.and_eq_true, decide_eq_true_eq] at ha
          refine q_if (b := true) (first (.tup h2) rfl) (fun _ H1 e1 => ?_) (fun z => nomatch z)
          refine q_when (b := false) (et_or (a := false) (b := false) (ne0 (u := "") (a := .non) (b := .non) (.tup (e1 _ _ h1)) (.tup (e1 _ _ h2))) (fun _ => ne1 (u := "") (a := .non) (b := .non) (.tup (e1 _ _ h1)) (.tup (e1 _ _ h2)))) (fun z => nomatch z) fun _ H2 e2 => ?_
          exact lay (b := true) rfl rfl (.inr h1) (.inr h2) a1 a2 ha.1 ha.2 H2 (e1.trans e2)
      | non =>
        cases hy
        exact q_when (b := false) (first .non rfl) (fun z => nomatch z) fun _ H1 e1 => flat H1 e1 .non .non rfl rfl rfl (.inr (.inl ⟨rfl, rfl⟩))
      | bl b =>
        cases hy
        exact q_when (b := false) (first (.bl b) rfl) (fun z => nomatch z) fun _ H1 e1 => flat H1 e1 (.bl b) (.bl b) rfl rfl rfl (.inr (.inr ⟨.inr rfl, fun z => nomatch z⟩))
      | int i =>
        cases hy
        exact q_when (b := false) (first (.int i) rfl) (fun z => nomatch z) fun _ H1 e1 => flat H1 e1 (.int i) (.int i) rfl rfl rfl (.inr (.inr ⟨.inl rfl, fun z => nomatch z⟩))
      | str z =>
        cases hy
        exact q_when (b := false) (first (.str z) rfl) (fun z => nomatch z) fun _ H1 e1 => flat H1 e1 (.str z) (.str z) rfl rfl rfl (.inl rfl)
end
end K19

set_option maxHeartbeats 2000000
namespace K19
open PySem PySem.Spec PyProof.Rows L2 Evl MyG
/-! ### letters -/
inductive Lt where
  | say (n r f : Int)
  | agree (n : Int)
deriving DecidableEq
def Lt.vs : Lt → List V
  | .say n r f => [.str "say", .int n, .int r, .int f]
  | .agree n => [.str "agree", .int n]
def Lt.ds : Lt → List PyData
  | .say n r f => [.str "say", .int n, .int r, .int f]
  | .agree n => [.str "agree", .int n]
def fS (n r f : Int) : List (Str × V) := putF "far" (.int f) (putF "root" (.int r) (putF "number" (.int n) []))
def fA (n : Int) : List (Str × V) := putF "number" (.int n) []
theorem nr_ : ¬ (("number" : Str) = "root") := by decide +kernel
theorem nf_ : ¬ (("number" : Str) = "far") := by decide +kernel
theorem rf_ : ¬ (("root" : Str) = "far") := by decide +kernel
theorem tn_ : ¬ (("told" : Str) = "number") := by decide +kernel
theorem tr_ : ¬ (("told" : Str) = "root") := by decide +kernel
theorem tf_ : ¬ (("told" : Str) = "far") := by decide +kernel
theorem fS_n (n r f : Int) : (fS n r f).lookup ("number" : Str) = some (.int n) := by
  unfold fS
  rw [lookup_putF, if_neg nf_, lookup_putF, if_neg nr_, lookup_putF, if_pos rfl]
theorem fS_r (n r f : Int) : (fS n r f).lookup ("root" : Str) = some (.int r) := by
  unfold fS
  rw [lookup_putF, if_neg rf_, lookup_putF, if_pos rfl]
theorem fS_f (n r f : Int) : (fS n r f).lookup ("far" : Str) = some (.int f) := by
  unfold fS
  rw [lookup_putF, if_pos rfl]
theorem fS_t (n r f : Int) : (fS n r f).lookup ("told" : Str) = none := by
  unfold fS
  rw [lookup_putF, if_neg tf_, lookup_putF, if_neg tr_, lookup_putF, if_neg tn_]
  rfl
theorem fA_n (n : Int) : (fA n).lookup ("number" : Str) = some (.int n) := by
  unfold fA
  rw [lookup_putF, if_pos rfl]
theorem fA_t (n : Int) : (fA n).lookup ("told" : Str) = none := by
  unfold fA
  rw [lookup_putF, if_neg tn_]
  rfl
theorem putF_len (f : Str) (v : V) : ∀ fs : List (Str × V), (putF f v fs).length ≤ fs.length + 1
  | [] => Nat.le_refl _
  | (g, x) :: r => by
    unfold putF
    split
    · exact Nat.le_succ _
    · exact Nat.succ_le_succ (putF_len f v r)
/-- a letter stands at p; S, A: the classes -/
def LtAt (S A : Addr) (H : Hp) (p : Addr) : Lt → Prop
  | .say n r f => ∃ dx, H p = some (.ins S dx (fS n r f))
  | .agree n => ∃ dx, H p = some (.ins A dx (fA n))
theorem LtAt.ext {S A p : Addr} {H H' : Hp} (e : Ex H H') : ∀ {l : Lt}, LtAt S A H p l → LtAt S A H' p l
  | .say _ _ _, ⟨dx, h⟩ => ⟨dx, e _ _ h⟩
  | .agree _, ⟨dx, h⟩ => ⟨dx, e _ _ h⟩
theorem lt_dq {H : Hp} : ∀ l : Lt, DqAll H l.vs l.ds
  | .say n r f => .cons (.str _) (.cons (.int _) (.cons (.int _) (.cons (.int _) .nil)))
  | .agree n => .cons (.str _) (.cons (.int _) .nil)
theorem lt_alk (k : Nat) (l : Lt) : alk (k + 2) (.tuple l.ds) = true := by
  cases l <;> simp [alk, Lt.ds]
def sp_initS (C : Addr) : Sp := fun vs H Q _ => ∃ (dx p : Addr) (n r f : Int), vs = [.ref p, .int n, .int r, .int f] ∧ H p = some (.ins C dx []) ∧ ∀ H', (∀ a, a ≠ p → H' a = H a) → H' p = some (.ins C dx (fS n r f)) → Q .non H'
def sp_initA (C : Addr) : Sp := fun vs H Q _ => ∃ (dx p : Addr) (n : Int), vs = [.ref p, .int n] ∧ H p = some (.ins C dx []) ∧ ∀ H', (∀ a, a ≠ p → H' a = H a) → H' p = some (.ins C dx (fA n)) → Q .non H'
def sp_toldS (C : Addr) : Sp := fun vs H Q _ => ∃ (dx p : Addr) (n r f : Int), vs = [.ref p] ∧ H p = some (.ins C dx (fS n r f)) ∧ ∀ t H', H t = none → Ex H H' → H' t = some (.tup (Lt.say n r f).vs) → Q (.ref t) H'
def sp_toldA (C : Addr) : Sp := fun vs H Q _ => ∃ (dx p : Addr) (n : Int), vs = [.ref p] ∧ H p = some (.ins C dx (fA n)) ∧ ∀ t H', H t = none → Ex H H' → H' t = some (.tup (Lt.agree n).vs) → Q (.ref t) H'
/-- equal to a letter that tells the same, to nothing else -/
def sp_eqS (S A : Addr) : Sp := fun vs H Q _ => ∃ (dx p : Addr) (n r f : Int) (y : V), vs = [.ref p, y] ∧ H p = some (.ins S dx (fS n r f)) ∧
  ((∃ t, AnyT H y t ∧ ∀ H', Ex H H' → Q (.bl false) H') ∨ ∃ q l, y = .ref q ∧ LtAt S A H q l ∧ ∀ H', Ex H H' → Q (.bl (decide (Lt.say n r f = l))) H')
def sp_eqA (S A : Addr) : Sp := fun vs H Q _ => ∃ (dx p : Addr) (n : Int) (y : V), vs = [.ref p, y] ∧ H p = some (.ins A dx (fA n)) ∧
  ((∃ t, AnyT H y t ∧ ∀ H', Ex H H' → Q (.bl false) H') ∨ ∃ q l, y = .ref q ∧ LtAt S A H q l ∧ ∀ H', Ex H H' → Q (.bl (decide (Lt.agree n = l))) H')
section
variable {P : Program} {w : World} {K : PySem.W.Frag} {mg : Str → Option Value} {base : Heap}
theorem ok_initS (T : Tx K mg) : FnOk P w K mg base CX0 1 T.a_Say___init__ T.d_Say___init__ ["self", "number", "root", "far"] (sp_initS T.c_Say) := by
  refine T.F_Say___init__.ok sc_Say___init__ (fun vs H Q E h => ?_) (fun cdv A outer s H vs Q E hr h => ?_)
  · obtain ⟨_, _, _, _, _, rfl, _⟩ := h
    rfl
  · obtain ⟨dx, p, n, r, f, rfl, hp, q⟩ := h
    refine ⟨_, (pss_cons (ps_fld (pv 0) (pv 1) rfl)
  (pss_cons (ps_fld (pv 0) (pv 2) rfl)
  (pss_one (ps_fld (pv 0) (pv 3) rfl)))), ?_⟩
    refine ⟨_, rfl, _, rfl, p, T.c_Say, dx, [], rfl, hp, T.cl_Say, T.n_Say_number, (by show 0 < 1000; decide), ?_⟩
    refine ⟨_, rfl, _, rfl, p, T.c_Say, dx, _, rfl, upd_same, T.cl_Say, T.n_Say_root, (by show 1 < 1000; decide), ?_⟩
    refine ⟨_, rfl, _, rfl, p, T.c_Say, dx, _, rfl, upd_same, T.cl_Say, T.n_Say_far, Nat.lt_of_le_of_lt (putF_len _ _ _) (by show 2 < 1000; decide), ?_⟩
    exact q _ (fun a ha => by rw [upd_ne ha, upd_ne ha, upd_ne ha]) upd_same
theorem ok_initA (T : Tx K mg) : FnOk P w K mg base CX0 1 T.a_Agree___init__ T.d_Agree___init__ ["self", "number"] (sp_initA T.c_Agree) := by
  refine T.F_Agree___init__.ok sc_Agree___init__ (fun vs H Q E h => ?_) (fun cdv A outer s H vs Q E hr h => ?_)
  · obtain ⟨_, _, _, rfl, _⟩ := h
    rfl
  · obtain ⟨dx, p, n, rfl, hp, q⟩ := h
    refine ⟨_, (pss_one (ps_fld (pv 0) (pv 1) rfl)), ?_⟩
    refine ⟨_, rfl, _, rfl, p, T.c_Agree, dx, [], rfl, hp, T.cl_Agree, T.n_Agree_number, (by show 0 < 1000; decide), ?_⟩
    exact q _ (fun a ha => by rw [upd_ne ha]) upd_same
theorem ok_toldS (T : Tx K mg) : FnOk P w K mg base CX0 1 T.a_Say_told T.d_Say_told ["self"] (sp_toldS T.c_Say) := by
  refine T.F_Say_told.ok sc_Say_told (fun vs H Q E h => ?_) (fun cdv A outer s H vs Q E hr h => ?_)
  · obtain ⟨_, _, _, _, _, rfl, _⟩ := h
    rfl
  · obtain ⟨dx, p, n, r, f, rfl, hp, q⟩ := h
    refine ⟨_, (pss_one (ps_ret (pe_tup (pa_cons pe_str (pa_cons (fldK (K := K) rfl (pv 0) rfl) (pa_cons (fldK (K := K) rfl (pv 0) rfl) (pa_cons (fldK (K := K) rfl (pv 0) rfl) pa_nil))))))), ?_⟩
    exact s_retU (eu_tup (ea_cons ev_c (ea_cons (ev_fld (ev_var rfl) hp T.cl_Say T.n_Say_number (fS_n _ _ _)) (ea_cons (ev_fld (ev_var rfl) hp T.cl_Say T.n_Say_root (fS_r _ _ _)) (ea_cons (ev_fld (ev_var rfl) hp T.cl_Say T.n_Say_far (fS_f _ _ _)) ea_nil)))) (by show 4 ≤ 100000; decide)) fun t H1 ht e h => q t H1 ht e h
theorem ok_toldA (T : Tx K mg) : FnOk P w K mg base CX0 1 T.a_Agree_told T.d_Agree_told ["self"] (sp_toldA T.c_Agree) := by
  refine T.F_Agree_told.ok sc_Agree_told (fun vs H Q E h => ?_) (fun cdv A outer s H vs Q E hr h => ?_)
  · obtain ⟨_, _, _, rfl, _⟩ := h
    rfl
  · obtain ⟨dx, p, n, rfl, hp, q⟩ := h
    refine ⟨_, (pss_one (ps_ret (pe_tup (pa_cons pe_str (pa_cons (fldK (K := K) rfl (pv 0) rfl) pa_nil))))), ?_⟩
    exact s_retU (eu_tup (ea_cons ev_c (ea_cons (ev_fld (ev_var rfl) hp T.cl_Agree T.n_Agree_number (fA_n _)) ea_nil)) (by show 2 ≤ 100000; decide)) fun t H1 ht e h => q t H1 ht e h
theorem ev_isiC {σ : L2.St} {H : Hp} {te : TE} {C D p dx : Addr} {fs : List (Str × V)} {b : Bool} (ha : Ev te σ H (.ref p)) (h : H p = some (.ins D dx fs)) (q : IsiC K D) (cl : Cls K D) (kb : PySem.W.kitOne K (.ref D) (.ref C) = some b) : Ev (tCB (rIsi K) (tCons te (tCons (tC (.ref C)) tNil))) σ H (.bl b) := fun H1 e Q k =>
  ha H1 e _ fun H2 e2 => isi_insD q cl kb ((e.trans e2) _ _ h) (k H2 e2)
theorem ev_isiNo {σ : L2.St} {H : Hp} {te : TE} {C : Addr} {y : V} {t : String} (ha : Ev te σ H y) (h : AnyT H y t) (q : IsiC K C) : Ev (tCB (rIsi K) (tCons te (tCons (tC (.ref C)) tNil))) σ H (.bl false) := fun H1 e Q k =>
  ha H1 e _ fun H2 e2 => isi_no q (h.ext (e.trans e2)) (k H2 e2)
theorem dec_int (a b : Int) : decide (V.int a = V.int b) = decide (a = b) := by
  by_cases h : a = b
  · subst h; simp
  · rw [decide_eq_false h, decide_eq_false (fun z => h (V.int.inj z))]
theorem ok_eqS (T : Tx K mg) : FnOk P w K mg base CX0 1 T.a_Say___eq__ T.d_Say___eq__ ["self", "other"] (sp_eqS T.c_Say T.c_Agree) := by
  refine T.F_Say___eq__.ok sc_Say___eq__ (fun vs H Q E h => ?_) (fun cdv A outer s H vs Q E hr h => ?_)
  · obtain ⟨_, _, _, _, _, _, rfl, _⟩ := h
    rfl
  · obtain ⟨dx, p, n, r, f, y, rfl, hp, hy⟩ := h
    refine ⟨_, (pss_one (ps_ret (pe_and (pe_callB (isiK (K := K) rfl) (by rfl) T.z_isinstance (by decide +kernel) (pa_cons (pv 1) (pa_cons (pe_glob (v := .ref T.c_Say) rfl T.g_Say rfl) pa_nil))) (pe_and (pe_cmpR op_eq (fldK (K := K) rfl (pv 0) rfl) (fldK (K := K) rfl (pv 1) rfl) (nomark _)) (pe_and (pe_cmpR op_eq (fldK (K := K) rfl (pv 0) rfl) (fldK (K := K) rfl (pv 1) rfl) (nomark _)) (pe_one (pe_cmpR op_eq (fldK (K := K) rfl (pv 0) rfl) (fldK (K := K) rfl (pv 1) rfl) (nomark _)))))))), ?_⟩
    rcases hy with ⟨t, ht, q⟩ | ⟨u, l, rfl, hl, q⟩
    · exact s_ret (ev_is (ev_andV (a := false) (b := false) (ev_isiNo (ev_var rfl) ht T.q_Say) (fun z => nomatch z)) rfl) q
    · cases l with
      | agree m =>
        obtain ⟨dy, hu⟩ := hl
        rw [decide_eq_false (fun z => by cases z)] at q
        exact s_ret (ev_is (ev_andV (a := false) (b := false) (ev_isiC (ev_var rfl) hu T.q_Agree T.cl_Agree T.kt_Agree_Say) (fun z => nomatch z)) rfl) q
      | say n' r' f' =>
        obtain ⟨dy, hu⟩ := hl
        have F : ∀ {g : Str} {a b : Int}, PySem.W.findIn K (.ref T.c_Say) g = some none → (fS n r f).lookup g = some (.int a) → (fS n' r' f').lookup g = some (.int b) → Ev (tOp rEq (tFld K (tVar 0) g) (tFld K (tVar 1) g)) [some (.ref p), some (.ref u)] H (.bl (decide (a = b))) := fun hn h1 h2 =>
          ev_is (ev_op (ev_fld (ev_var rfl) hp T.cl_Say hn h1) (ev_fld (ev_var rfl) hu T.cl_Say hn h2) (rv_eq rfl)) (by rw [dec_int])
        have e : decide (Lt.say n r f = Lt.say n' r' f') = (true && (decide (n = n') && (decide (r = r') && decide (f = f')))) := by
          by_cases h1 : n = n' <;> by_cases h2 : r = r' <;> by_cases h3 : f = f' <;> simp [h1, h2, h3]
        rw [e] at q
        exact s_ret (ev_andV (ev_isiC (ev_var rfl) hu T.q_Say T.cl_Say kit_self) fun _ => ev_andV (F T.n_Say_number (fS_n _ _ _) (fS_n _ _ _)) fun _ => ev_andV (F T.n_Say_root (fS_r _ _ _) (fS_r _ _ _)) fun _ => F T.n_Say_far (fS_f _ _ _) (fS_f _ _ _)) q
theorem ok_eqA (T : Tx K mg) : FnOk P w K mg base CX0 1 T.a_Agree___eq__ T.d_Agree___eq__ ["self", "other"] (sp_eqA T.c_Say T.c_Agree) := by
  refine T.F_Agree___eq__.ok sc_Agree___eq__ (fun vs H Q E h => ?_) (fun cdv A outer s H vs Q E hr h => ?_)
  · obtain ⟨_, _, _, _, rfl, _⟩ := h
    rfl
  · obtain ⟨dx, p, n, y, rfl, hp, hy⟩ := h
    refine ⟨_, (pss_one (ps_ret (pe_and (pe_callB (isiK (K := K) rfl) (by rfl) T.z_isinstance (by decide +kernel) (pa_cons (pv 1) (pa_cons (pe_glob (v := .ref T.c_Agree) rfl T.g_Agree rfl) pa_nil))) (pe_one (pe_cmpR op_eq (fldK (K := K) rfl (pv 0) rfl) (fldK (K := K) rfl (pv 1) rfl) (nomark _)))))), ?_⟩
    rcases hy with ⟨t, ht, q⟩ | ⟨u, l, rfl, hl, q⟩
    · exact s_ret (ev_is (ev_andV (a := false) (b := false) (ev_isiNo (ev_var rfl) ht T.q_Agree) (fun z => nomatch z)) rfl) q
    · cases l with
      | say n' r' f' =>
        obtain ⟨dy, hu⟩ := hl
        rw [decide_eq_false (fun z => by cases z)] at q
        exact s_ret (ev_is (ev_andV (a := false) (b := false) (ev_isiC (ev_var rfl) hu T.q_Say T.cl_Say T.kt_Say_Agree) (fun z => nomatch z)) rfl) q
      | agree m =>
        obtain ⟨dy, hu⟩ := hl
        have e : decide (Lt.agree n = Lt.agree m) = (true && decide (n = m)) := by
          by_cases h1 : n = m <;> simp [h1]
        rw [e] at q
        exact s_ret (ev_andV (ev_isiC (ev_var rfl) hu T.q_Agree T.cl_Agree kit_self) fun _ => ev_is (ev_op (ev_fld (ev_var rfl) hp T.cl_Agree T.n_Agree_number (fA_n _)) (ev_fld (ev_var rfl) hu T.cl_Agree T.n_Agree_number (fA_n _)) (rv_eq rfl)) (by rw [dec_int])) q
/-! ### letters made -/
def sp_made (S A : Addr) : Sp := fun vs H Q _ => ∃ (t : Addr) (b : Bool) (l : Lt), vs = [.ref t, .bl b] ∧ H t = some (.tup l.vs) ∧ ∀ p H', H p = none → Ex H H' → LtAt S A H' p l → Q (.ref p) H'
/-- a new letter -/
def EvM (S A : Addr) (te : TE) (σ : L2.St) (H : Hp) (l : Lt) : Prop := ∀ H1, Ex H H1 → ∀ Q : VK, (∀ p H2, H1 p = none → Ex H1 H2 → LtAt S A H2 p l → Q (.ref p) H2) → te σ H1 Q
theorem em_if {S A : Addr} {ta tb : TE} {σ : L2.St} {H : Hp} {t : TT} {b : Bool} {l : Lt} (h : EvT t σ H b) (h1 : EvM S A ta σ H l) (h2 : EvM S A tb σ H l) : EvM S A (tIf t ta tb) σ H l := fun H1 e Q q => h H1 e _ fun H2 e2 => by
  cases b with
  | true => exact iteT (h1 H2 (e.trans e2) Q fun p H3 hp e3 hx => q p H3 (fresh_back e2 hp) (e2.trans e3) hx)
  | false => exact iteF (h2 H2 (e.trans e2) Q fun p H3 hp e3 hx => q p H3 (fresh_back e2 hp) (e2.trans e3) hx)
theorem made_ex {H H' : Hp} {x dx C : Addr} (hx : H x = none) (hdx : H dx = none) (off : ∀ a, a ≠ x → H' a = (upd (upd H dx (.own x)) x (.ins C dx [])) a) : Ex H H' := fun a o ha => by
  have h1 := ne_of_none ha hx
  have h2 := ne_of_none ha hdx
  rw [off a h1, upd_ne h1, upd_ne h2]
  exact ha
section
variable {S A : Addr} {σ : L2.St} {H : Hp} {n r f : Int}
theorem em_say {ta : TA} (h : EvA ta σ H [.int n, .int r, .int f]) : EvM S A (tMake S (sp_initS S) [] E0 ta) σ H (.say n r f) := fun H1 e Q q =>
  h H1 e _ fun H2 e2 x dx hx hdx ne => ⟨dx, x, n, r, f, rfl, upd_same, fun H' off hp => ⟨rfl, q x H' (fresh_back e2 hx) (e2.trans (made_ex hx hdx off)) ⟨dx, hp⟩⟩⟩
theorem em_agree {ta : TA} (h : EvA ta σ H [.int n]) : EvM S A (tMake A (sp_initA A) [] E0 ta) σ H (.agree n) := fun H1 e Q q =>
  h H1 e _ fun H2 e2 x dx hx hdx ne => ⟨dx, x, n, rfl, upd_same, fun H' off hp => ⟨rfl, q x H' (fresh_back e2 hx) (e2.trans (made_ex hx hdx off)) ⟨dx, hp⟩⟩⟩
end
end
end K19

set_option maxHeartbeats 2000000
namespace K19
open PySem PySem.Spec PyProof.Rows L2 Evl MyG
/-! ### what is known (B) beside the state -/
structure Wd (s c : Addr) (B H : Hp) : Prop where
  ex : Ex B H
  ns : B s = none
  nc : B c = none
  st : Sta s c H
theorem Sta.ext {s c : Addr} {H H' : Hp} (h : Sta s c H) (e : Ex H H') : Sta s c H' :=
  ⟨h.ne, let ⟨cells, i, j, h1, h2, r⟩ := h.ex; ⟨cells, i, j, e _ _ h1, e _ _ h2, r⟩⟩
theorem Sta.s_some {s c : Addr} {H : Hp} (h : Sta s c H) : ∃ o, H s = some o := let ⟨_, _, _, h1, _⟩ := h.ex; ⟨_, h1⟩
theorem Sta.c_some {s c : Addr} {H : Hp} (h : Sta s c H) : ∃ o, H c = some o := let ⟨_, _, _, _, h2, _⟩ := h.ex; ⟨_, h2⟩
theorem Sta.ne_s {s c p : Addr} {H : Hp} (h : Sta s c H) (hp : H p = none) : p ≠ s := fun e => by
  obtain ⟨o, z⟩ := h.s_some
  rw [e, z] at hp
  cases hp
theorem Sta.ne_c {s c p : Addr} {H : Hp} (h : Sta s c H) (hp : H p = none) : p ≠ c := fun e => by
  obtain ⟨o, z⟩ := h.c_some
  rw [e, z] at hp
  cases hp
theorem Sta.upd {s c p : Addr} {H : Hp} {o : HO} (h : Sta s c H) (hs : p ≠ s) (hc : p ≠ c) : Sta s c (upd H p o) :=
  ⟨h.ne, let ⟨cells, i, j, h1, h2, r⟩ := h.ex; ⟨cells, i, j, by rw [upd_ne hs.symm]; exact h1, by rw [upd_ne hc.symm]; exact h2, r⟩⟩
section
variable {s c p : Addr} {B H H' : Hp} {o : HO}
theorem Wd.off (h : Wd s c B H) (st : Sta s c H') (f : Off s c H H') : Wd s c B H' := ⟨fun a u e => by
  rw [f a (fun z => by rw [z, h.ns] at e; cases e) (fun z => by rw [z, h.nc] at e; cases e)]
  exact h.ex a u e, h.ns, h.nc, st⟩
theorem Wd.ext (h : Wd s c B H) (e : Ex H H') : Wd s c B H' := ⟨h.ex.trans e, h.ns, h.nc, h.st.ext e⟩
theorem Wd.mut (h : Wd s c B H) (hp : B p = none) (hs : p ≠ s) (hc : p ≠ c) : Wd s c B (upd H p o) := ⟨h.ex.mut hp, h.ns, h.nc, h.st.upd hs hc⟩
theorem Wd.know (h : Wd s c B H) (hp : H p = some o) (hs : p ≠ s) (hc : p ≠ c) : Wd s c (upd B p o) H := ⟨fun a u e => by
  by_cases z : a = p
  · rw [z, upd_same] at e
    rw [z, ← e]
    exact hp
  · rw [upd_ne z] at e
    exact h.ex a u e, by rw [upd_ne hs.symm]; exact h.ns, by rw [upd_ne hc.symm]; exact h.nc, h.st⟩
theorem Wd.none_of (h : Wd s c B H) (hp : H p = none) : B p = none := fresh_back h.ex hp
theorem ex_know (hp : B p = none) : Ex B (upd B p o) := Ex.new hp
end
/-! ### letters drawn -/
def sp_letter : Sp := fun vs H Q _ => ∃ (s c : Addr) (B : Hp), vs = [.ref s] ∧ Wd s c B H ∧ ∀ l t B' H', Ex B B' → B' t = some (.tup (Lt.vs l)) → Wd s c B' H' → Q (.ref t) H'
section
variable {P : Program} {w : World} {K : PySem.W.Frag} {mg : Str → Option Value} {base : Heap}
theorem ok_letter (T : Tx K mg) : FnOk P w K mg base CX0 2 T.a_l_letter T.d_l_letter ["_law_state_here"] sp_letter := by
  have G_l_draw := ok_draw (P := P) (w := w) (base := base) T
  refine T.F_l_letter.ok sc_l_letter (fun vs H Q E h => ?_) (fun cdv A outer s H vs Q E hr h => ?_)
  · obtain ⟨_, _, _, rfl, _⟩ := h
    rfl
  · obtain ⟨s, c, B, rfl, W, q⟩ := h
    refine ⟨_, (pss_cons (ps_set (i := 1) sc_l_letter.nd rfl (Or.inr rfl) (pe_lst (pa_cons pe_int (pa_cons pe_int (pa_cons pe_int (pa_cons pe_int (pa_cons pe_int (pa_cons (pe_op op_add pe_int (pe_call G_l_draw (hr.mono (by decide)) (by rfl) T.g_l_draw T.F_l_draw.kp T.b_l_draw .nil pass0 (pa_cons (pv 0) (pa_cons pe_int pa_nil)))) (pa_cons (pe_op op_pow pe_int pe_int) pa_nil)))))))))
  (pss_cons (ps_setLc (i := 2) (own := [("_law_k", 3)]) (g := (gName 3)) (tt := tYes) rfl sc_l_letter.nd rfl rfl (sw_true rfl rfl rfl (by decide +kernel)) (pi_range1 rfl T.z_range (pa_cons pe_int pa_nil)) (blkOk_by (N := n_l_letter) (sc := defScope s_l_letter) (by decide +kernel)) (fun _ _ _ _ _ => (pg_name (i := 3) sc_l_letter.nd rfl (Or.inl rfl))) (fun _ _ _ _ _ => pts_nil) (fun _ _ _ _ _ => (pe_ix (ix_listK (K := K) rfl) (pv 1) (pe_call G_l_draw (hr.mono (by decide)) (by rfl) T.g_l_draw T.F_l_draw.kp T.b_l_draw .nil pass0 (pa_cons (pv 0) (pa_cons pe_int pa_nil))) (fun _ _ => rfl))))
  (pss_one (ps_ret (pe_ifExp (pt_cmpR op_eq (pe_call G_l_draw (hr.mono (by decide)) (by rfl) T.g_l_draw T.F_l_draw.kp T.b_l_draw .nil pass0 (pa_cons (pv 0) (pa_cons pe_int pa_nil))) pe_int (nomark _)) (pe_tup (pa_cons pe_str (pa_cons (pe_ix (ix_listK (K := K) rfl) (pv 2) pe_int (fun _ _ => rfl)) pa_nil))) (pe_tup (pa_cons pe_str (pa_cons (pe_ix (ix_listK (K := K) rfl) (pv 2) pe_int (fun _ _ => rfl)) (pa_cons (pe_ix (ix_listK (K := K) rfl) (pv 2) pe_int (fun _ _ => rfl)) (pa_cons (pe_ix (ix_listK (K := K) rfl) (pv 2) pe_int (fun _ _ => rfl)) pa_nil)))))))))), ?_⟩
    refine ⟨_, rfl, s, c, 400, rfl, W.st, by decide, by decide, fun r H1 r0 r1 st1 off1 => ⟨_, _, rfl, rfl, 10, 30, rfl, rfl, ⟨by decide, by decide, by decide⟩, by show 7 ≤ sizeLine; decide, fun a ha => ?_⟩⟩
    have W1 := W.off st1 off1
    have W2 := (W1.ext (Ex.new (o := .lst (([1, 2, 3, 0, 999, 1 + r, 10 ^ 30] : List Int).map V.int)) ha)).know upd_same (W1.st.ne_s ha) (W1.st.ne_c ha)
    have hB : B a = none := W1.none_of ha
    have eB2 : Ex B (upd B a (.lst (([1, 2, 3, 0, 999, 1 + r, 10 ^ 30] : List Int).map V.int))) := ex_know hB
    have ha2 : (upd B a (.lst (([1, 2, 3, 0, 999, 1 + r, 10 ^ 30] : List Int).map V.int))) a = some (.lst (([1, 2, 3, 0, 999, 1 + r, 10 ^ 30] : List Int).map V.int)) := upd_same
    generalize upd B a (.lst (([1, 2, 3, 0, 999, 1 + r, 10 ^ 30] : List Int).map V.int)) = B2 at W2 eB2 ha2
    refine ⟨3, rfl, by decide, by decide, fun D hD => lc_range (lo := 0) (n := 3) (fun i H' => ∃ xs : List Int, Wd s c B2 H' ∧ H' D = some (.lst (xs.map V.int)) ∧ xs.length = i) ⟨[], W2.ext (Ex.new hD), upd_same, rfl⟩ ?_ ?_⟩
    · rintro i H3 hi ⟨xs, W3, hD3, hl⟩
      refine ⟨rfl, un_yes (iteT ⟨_, rfl, _, rfl, s, c, 7, rfl, W3.st, by decide, by decide, fun z H4 z0 z1 st4 off4 => ?_⟩)⟩
      have W4 := W3.off st4 off4
      obtain ⟨x, hx, hxa, hxm⟩ := ints_at (ns := [1, 2, 3, 0, 999, 1 + r, 10 ^ 30]) z0 (by show z < 7; exact z1)
      have hD4 := (off4 D (W2.st.ne_s hD) (W2.st.ne_c hD)).trans hD3
      refine ⟨a, _, z, _, rfl, rfl, SqL.of (W4.ex _ _ ha2), hxa, _, hD4, by rw [List.length_map, hl]; exact Nat.lt_of_lt_of_le hi (by decide), xs ++ [x], W4.mut (W2.none_of hD) (W2.st.ne_s hD) (W2.st.ne_c hD), ?_, by rw [List.length_append, hl]; rfl⟩
      rw [upd_same, List.map_append]
      rfl
    · rintro H5 ⟨xs, W5, hD5, hl⟩
      obtain ⟨n, k, f, rfl⟩ : ∃ n k f, xs = [n, k, f] := by
        match xs, hl with
        | [n, k, f], _ => exact ⟨n, k, f, rfl⟩
      have W6 := W5.know hD5 (W2.st.ne_s hD) (W2.st.ne_c hD)
      have e6 : Ex B2 (upd B2 D (.lst ([n, k, f].map V.int))) := ex_know (W2.none_of hD)
      have hD6 : (upd B2 D (.lst ([n, k, f].map V.int))) D = some (.lst ([n, k, f].map V.int)) := upd_same
      generalize upd B2 D (.lst ([n, k, f].map V.int)) = B6 at W6 e6 hD6
      refine ⟨_, rfl, s, c, 2, rfl, W6.st, by decide, by decide, fun z H7 z0 z1 st7 off7 => ⟨rfl, _, rfl, ite2 (fun _ => ?_) (fun _ => ?_)⟩⟩
      all_goals have W7 := W6.off st7 off7
      all_goals have hD7 := W7.ex _ _ hD6
      · refine go_U (eu_tup (ea_cons ev_c (ea_cons (ev_op (ev_var rfl) ev_c (rv_ixL (SqL.of hD7) (atI_nat (j := 0) rfl))) ea_nil)) (by show 2 ≤ 100000; decide)) fun t H8 ht e8 h8 => ?_
        have W8 := W7.ext e8
        exact q (.agree n) t _ H8 ((eB2.trans e6).trans (ex_know (W7.none_of ht))) upd_same (W8.know h8 (W7.st.ne_s ht) (W7.st.ne_c ht))
      · refine go_U (eu_tup (ea_cons ev_c (ea_cons (ev_op (ev_var rfl) ev_c (rv_ixL (SqL.of hD7) (atI_nat (j := 0) rfl))) (ea_cons (ev_op (ev_var rfl) ev_c (rv_ixL (SqL.of hD7) (atI_nat (j := 1) rfl))) (ea_cons (ev_op (ev_var rfl) ev_c (rv_ixL (SqL.of hD7) (atI_nat (j := 2) rfl))) ea_nil)))) (by show 4 ≤ 100000; decide)) fun t H8 ht e8 h8 => ?_
        have W8 := W7.ext e8
        exact q (.say n k f) t _ H8 ((eB2.trans e6).trans (ex_know (W7.none_of ht))) upd_same (W8.know h8 (W7.st.ne_s ht) (W7.st.ne_c ht))
end
end K19

set_option maxHeartbeats 2000000
namespace K19
open PySem PySem.Spec PyProof.Rows L2 Evl MyG
/-! ### places drawn -/
structure Places (ps : List Int) : Prop where
  nd : ps.Nodup
  l0 : 1 ≤ ps.length
  l1 : ps.length ≤ 8
  bd : ∀ x ∈ ps, 0 ≤ x ∧ x ≤ 999
theorem inV_ints (z : Int) : ∀ ns : List Int, inV (.int z) (ns.map V.int) = decide (z ∈ ns)
  | [] => by simp [inV]
  | n :: ns => by
    have ih := inV_ints z ns
    unfold inV at ih ⊢
    rw [List.map_cons, List.any_cons, ih]
    have e : eqV (.int n) (.int z) = decide (n = z) := by first | rfl | simp [eqV]
    rw [e]
    by_cases h : n = z
    · subst h; simp
    · have h' : ¬ z = n := fun q => h q.symm
      simp [h, h']
theorem flat_ints (ns : List Int) : (ns.map V.int).all flatV = true := by
  rw [List.all_eq_true]
  intro x hx
  obtain ⟨n, _, rfl⟩ := List.mem_map.mp hx
  rfl
theorem len8 {n : Nat} (h : n ≤ 1000) : n < sizeLine := small1000 h
theorem nodup_snoc {xs : List Int} {z : Int} (h : xs.Nodup) (hz : ¬ z ∈ xs) : (xs ++ [z]).Nodup := by
  rw [List.nodup_append]
  refine ⟨h, by simp, fun a ha b hb => ?_⟩
  obtain rfl := List.mem_singleton.mp hb
  exact fun e => hz (e ▸ ha)
abbrev Row := Int × Int × Int
def rowV (r : Row) : List V := [.int r.1, .int r.2.1, .int r.2.2]
def RowsAt (B : Hp) : List V → List Row → Prop := Paired fun (v : V) (r : Row) => ∃ a, v = .ref a ∧ B a = some (.tup (rowV r))
structure RoadOk (ps : List Int) (r : Row) : Prop where
  m1 : r.1 ∈ ps
  m2 : r.2.1 ∈ ps
  ne : r.1 ≠ r.2.1
  c0 : 1 ≤ r.2.2
  c1 : r.2.2 ≤ 30
structure Roads (ps : List Int) (rs : List Row) : Prop where
  len : rs.length ≤ 12
  ok : ∀ r ∈ rs, RoadOk ps r
theorem RowsAt.mono {B B' : Hp} (e : Ex B B') {vs : List V} {rs : List Row} (h : RowsAt B vs rs) : RowsAt B' vs rs := Paired.mapP h fun _ _ ⟨a, h1, h2⟩ => ⟨a, h1, e _ _ h2⟩
theorem RowsAt.len {B : Hp} {vs : List V} {rs : List Row} (h : RowsAt B vs rs) : vs.length = rs.length := Paired.length h
theorem RowsAt.snoc {B : Hp} {a : Addr} {r : Row} (ha : B a = some (.tup (rowV r))) : ∀ {vs : List V} {rs : List Row}, RowsAt B vs rs → RowsAt B (vs ++ [.ref a]) (rs ++ [r])
  | _, _, .nil => .cons ⟨a, rfl, ha⟩ .nil
  | _, _, .cons h t => .cons h (RowsAt.snoc ha t)
theorem et_yes {σ : L2.St} {H : Hp} : EvT tYes σ H true := fun H1 _ _ q => q H1 (Ex.refl H1)
theorem given_all (ys : List V) : given ys.length (fun _ => true) (fun i => ys.getD i .non) = ys := by
  unfold given
  rw [List.filter_eq_self.mpr (fun _ _ => rfl)]
  refine List.ext_getElem (by simp) (fun i h1 h2 => ?_)
  rw [List.getElem_map, List.getElem_range, List.getD_eq_getElem?_getD, List.getElem?_eq_getElem h2]
  rfl
theorem el_map {K : PySem.W.Frag} {σ : L2.St} {H : Hp} {te : TE} {a : Addr} {xs ys : List V} {tl : TE} {j : Nat} {vs : List Nat} (h : Ev tl σ H (.ref a)) (hx : SqL K H a xs) (hz : xs.length ≤ 40000) (hl : ys.length = xs.length)
    (hw : ∀ x, wipe ((wipe σ vs).set j (some x)) vs = wipe σ vs) (he : ∀ (i : Nat) (x y : V) H1, Ex H H1 → xs[i]? = some x → ys[i]? = some y → Ev te ((wipe σ vs).set j (some x)) H1 y) : EvL (tLc (iList K tl) (gName j) tYes te vs) σ H ys := by
  have k := el_lcL (K := K) (t := tYes) (te := te) (fun _ => true) (fun i => ys.getD i .non) h hx hz hw (fun i x H1 e hi => et_yes) (fun i x H1 e hi _ => by
    have h1 := (List.getElem?_eq_some_iff.mp hi).1
    have h2 : i < ys.length := by omega
    rw [show ys.getD i .non = ys[i] by rw [List.getD_eq_getElem?_getD, List.getElem?_eq_getElem h2]; rfl]
    exact he i x _ H1 e hi (List.getElem?_eq_getElem h2))
  rw [← hl, given_all] at k
  exact k
/-- steps from a first number, no two of them alike -/
theorem step_ne {f g : Int} {k j : Nat} (hg : g ∈ ([1, 3, 7, 333, 999, 501, 17] : List Int)) (hk : k < 8) (hj : j < 8) (e : (f + g * (k : Int)).fmod 1000 = (f + g * (j : Int)).fmod 1000) : k = j := by
  rw [Int.fmod_eq_emod_of_nonneg _ (by decide), Int.fmod_eq_emod_of_nonneg _ (by decide)] at e
  simp only [List.mem_cons, List.not_mem_nil, or_false] at hg
  rcases hg with rfl | rfl | rfl | rfl | rfl | rfl | rfl <;> omega
/-- a ground: halls, in an order, and links -/
def sp_ground (K : PySem.W.Frag) : Sp := fun vs H Q _ => ∃ (s c : Addr) (B : Hp) (m n : Int), vs = [.ref s, .int m, .int n] ∧ Wd s c B H ∧ (m = 8 ∧ n = 8 ∨ m = 5 ∧ n = 6) ∧
  ∀ (t p l : Addr) (ps : List Int) (ts : List V) (rs : List Row) (B' H' : Hp), Ex B B' → Wd s c B' H' → B' t = some (.tup [.ref p, .ref l]) → B' p = some (.lst (ps.map V.int)) → B' l = some (.lst ts) → RowsAt B' ts rs → Places ps → Roads ps rs → 1 ≤ rs.length → 2 ≤ ps.length → Q (.ref t) H'
def sp_any (K : PySem.W.Frag) : Sp := fun vs H Q _ => ∃ (s c : Addr) (B : Hp), vs = [.ref s] ∧ Wd s c B H ∧
  ∀ (t p l : Addr) (ps : List Int) (ts : List V) (rs : List Row) (B' H' : Hp), Ex B B' → Wd s c B' H' → B' t = some (.tup [.ref p, .ref l]) → B' p = some (.lst (ps.map V.int)) → B' l = some (.lst ts) → RowsAt B' ts rs → Places ps → Roads ps rs → 1 ≤ rs.length → 2 ≤ ps.length → Q (.ref t) H'
section
variable {P : Program} {w : World} {K : PySem.W.Frag} {mg : Str → Option Value} {base : Heap}
theorem ok_ground (T : Tx K mg) : FnOk P w K mg base CX0 2 T.a_l_ground T.d_l_ground ["_law_state_here", "_law_most_halls", "_law_most_links"] (sp_ground K) := by
  have G_l_draw := ok_draw (P := P) (w := w) (base := base) T
  refine T.F_l_ground.ok sc_l_ground (fun vs H Q E h => ?_) (fun cdv A outer s H vs Q E hr h => ?_)
  · obtain ⟨_, _, _, _, _, rfl, _⟩ := h
    rfl
  · obtain ⟨s, c, B, m, n, rfl, W, hmn, q⟩ := h
    refine ⟨_, (pss_cons (ps_par (i := 3) (j := 4) rfl sc_l_ground.nd rfl rfl (by decide) rfl rfl (pa_cons (pe_call G_l_draw (hr.mono (by decide)) (by rfl) T.g_l_draw T.F_l_draw.kp T.b_l_draw .nil pass0 (pa_cons (pv 0) (pa_cons pe_int pa_nil))) (pa_cons (pe_ix (ix_listK (K := K) rfl) (pe_lst (pa_cons pe_int (pa_cons pe_int (pa_cons pe_int (pa_cons pe_int (pa_cons pe_int (pa_cons pe_int (pa_cons pe_int pa_nil)))))))) (pe_call G_l_draw (hr.mono (by decide)) (by rfl) T.g_l_draw T.F_l_draw.kp T.b_l_draw .nil pass0 (pa_cons (pv 0) (pa_cons pe_int pa_nil))) (fun _ _ => rfl)) pa_nil)) (by rfl))
  (pss_cons (ps_set (i := 5) sc_l_ground.nd rfl (Or.inl rfl) (pe_lst pa_nil))
  (pss_cons (ps_for PassesOwn.never rfl (pi_range1 rfl T.z_range (pa_cons (pe_op op_add pe_int (pe_call G_l_draw (hr.mono (by decide)) (by rfl) T.g_l_draw T.F_l_draw.kp T.b_l_draw .nil pass0 (pa_cons (pv 0) (pa_cons (pe_op op_sub (pv 1) pe_int) pa_nil)))) pa_nil)) (pg_name (i := 6) sc_l_ground.nd rfl (Or.inl rfl))
   (pss_one (ps_expr (pe_bm PySem.F.plainAttrs_list PySem.F.slot_list_insert PySem.F.type_list_insert mt_insert (pv 5) (pa_cons (pe_call G_l_draw (hr.mono (by decide)) (by rfl) T.g_l_draw T.F_l_draw.kp T.b_l_draw .nil pass0 (pa_cons (pv 0) (pa_cons (pe_op op_add (pe_callB (lenK (K := K) rfl) (by rfl) T.z_len (by decide +kernel) (pa_cons (pv 5) pa_nil)) pe_int) pa_nil))) (pa_cons (pe_op op_modN (pe_op op_add (pv 3) (pe_op op_mul (pv 4) (pv 6))) pe_int) pa_nil))))))
  (pss_cons (ps_set (i := 7) sc_l_ground.nd rfl (Or.inl rfl) (pe_lst pa_nil))
  (pss_cons (ps_for PassesOwn.never rfl (pi_range1 rfl T.z_range (pa_cons (pe_op op_add pe_int (pe_call G_l_draw (hr.mono (by decide)) (by rfl) T.g_l_draw T.F_l_draw.kp T.b_l_draw .nil pass0 (pa_cons (pv 0) (pa_cons (pv 2) pa_nil)))) pa_nil)) (pg_name (i := 6) sc_l_ground.nd rfl (Or.inl rfl))
   (pss_cons (ps_set (i := 8) sc_l_ground.nd rfl (Or.inl rfl) (pe_call G_l_draw (hr.mono (by decide)) (by rfl) T.g_l_draw T.F_l_draw.kp T.b_l_draw .nil pass0 (pa_cons (pv 0) (pa_cons (pe_callB (lenK (K := K) rfl) (by rfl) T.z_len (by decide +kernel) (pa_cons (pv 5) pa_nil)) pa_nil))))
  (pss_cons (ps_set (i := 9) sc_l_ground.nd rfl (Or.inl rfl) (pe_ix (ix_listK (K := K) rfl) (pv 5) (pe_op op_modN (pe_op op_add (pe_op op_add (pv 8) pe_int) (pe_call G_l_draw (hr.mono (by decide)) (by rfl) T.g_l_draw T.F_l_draw.kp T.b_l_draw .nil pass0 (pa_cons (pv 0) (pa_cons (pe_op op_sub (pe_callB (lenK (K := K) rfl) (by rfl) T.z_len (by decide +kernel) (pa_cons (pv 5) pa_nil)) pe_int) pa_nil)))) (pe_callB (lenK (K := K) rfl) (by rfl) T.z_len (by decide +kernel) (pa_cons (pv 5) pa_nil))) (fun _ _ => rfl)))
  (pss_cons (ps_expr (pe_bm PySem.F.plainAttrs_list PySem.F.slot_list_append PySem.F.type_list_append mt_append (pv 7) (pa_cons (pe_tup (pa_cons (pe_ix (ix_listK (K := K) rfl) (pv 5) (pv 8) (fun _ _ => rfl)) (pa_cons (pv 9) (pa_cons (pe_op op_add pe_int (pe_call G_l_draw (hr.mono (by decide)) (by rfl) T.g_l_draw T.F_l_draw.kp T.b_l_draw .nil pass0 (pa_cons (pv 0) (pa_cons (pe_ix (ix_listK (K := K) rfl) (pe_lst (pa_cons pe_int (pa_cons pe_int pa_nil))) (pe_call G_l_draw (hr.mono (by decide)) (by rfl) T.g_l_draw T.F_l_draw.kp T.b_l_draw .nil pass0 (pa_cons (pv 0) (pa_cons pe_int pa_nil))) (fun _ _ => rfl)) pa_nil)))) pa_nil)))) pa_nil)))
  (pss_one (ps_if (PW.pt (pw_and (pt_cmpR op_eq (pe_call G_l_draw (hr.mono (by decide)) (by rfl) T.g_l_draw T.F_l_draw.kp T.b_l_draw .nil pass0 (pa_cons (pv 0) (pa_cons pe_int pa_nil))) pe_int (nomark _)) (pw_and1 (pt_cmpR op_lt (pe_callB (lenK (K := K) rfl) (by rfl) T.z_len (by decide +kernel) (pa_cons (pv 7) pa_nil)) (pv 2) (nomark _))))) (pss_one (ps_expr (pe_bm PySem.F.plainAttrs_list PySem.F.slot_list_append PySem.F.type_list_append mt_append (pv 7) (pa_cons (pe_tup (pa_cons (pv 9) (pa_cons (pe_ix (ix_listK (K := K) rfl) (pv 5) (pv 8) (fun _ _ => rfl)) (pa_cons (pe_op op_add pe_int (pe_call G_l_draw (hr.mono (by decide)) (by rfl) T.g_l_draw T.F_l_draw.kp T.b_l_draw .nil pass0 (pa_cons (pv 0) (pa_cons pe_int pa_nil)))) pa_nil)))) pa_nil)))) pss_nil))))))
  (pss_one (ps_ret (pe_tup (pa_cons (pv 5) (pa_cons (pv 7) pa_nil)))))))))), ?_⟩
    -- first, step
    refine ⟨_, rfl, s, c, 1000, rfl, W.st, by decide, by decide, fun f H1 f0 f1 st1 off1 => ⟨by show 7 ≤ sizeLine; decide, fun p hp => ?_⟩⟩
    have W1 := W.off st1 off1
    have W2 := W1.ext (Ex.new (o := .lst (([1, 3, 7, 333, 999, 501, 17] : List Int).map V.int)) hp)
    refine ⟨_, rfl, s, c, 7, rfl, W2.st, by decide, by decide, fun z H3 z0 z1 st3 off3 => ?_⟩
    have W3 := W2.off st3 off3
    have p3 : H3 p = some (.lst (([1, 3, 7, 333, 999, 501, 17] : List Int).map V.int)) := (off3 p (W1.st.ne_s hp) (W1.st.ne_c hp)).trans upd_same
    obtain ⟨g, hg, hga, hgm⟩ := ints_at (ns := [1, 3, 7, 333, 999, 501, 17]) z0 (by show z < 7; exact z1)
    refine ⟨p, _, z, _, rfl, rfl, SqL.of p3, hga, _, _, rfl, ?_⟩
    -- halls = []
    refine ⟨Nat.zero_le _, fun fh hfh => ?_⟩
    have hs1 := W3.st.ne_s hfh
    have hc1 := W3.st.ne_c hfh
    have hB1 := W3.none_of hfh
    have W4 := W3.ext (Ex.new (o := .lst []) hfh)
    refine ⟨_, rfl, _, rfl, m, 1, rfl, rfl, s, c, m - 1, rfl, W4.st, by omega, by omega, fun r H5 r0 r1 st5 off5 => ⟨2, r, rfl, rfl, 2 + r, rfl, by omega, by omega, ?_⟩⟩
    have W5 := W4.off st5 off5
    have mb : m ≤ 8 := by omega
    refine for_range (lo := 0) (n := (2 + r).toNat) (fun i σ H' => ∃ (xs : List Int) (y6 y7 y8 y9 : Option V), σ = [some (.ref s), some (.int m), some (.int n), some (.int f), some (.int g), some (.ref fh), y6, y7, y8, y9] ∧ Wd s c B H' ∧
      H' fh = some (.lst (xs.map V.int)) ∧ xs.Nodup ∧ xs.length = i ∧ ∀ x ∈ xs, ∃ j : Nat, j < i ∧ x = (f + g * (j : Int)).fmod 1000) ⟨[], _, _, _, _, rfl, W5, (off5 fh hs1 hc1).trans upd_same, List.nodup_nil, rfl, fun x hx => nomatch hx⟩ ?_ ?_
    · rintro i σ H6 hi ⟨xs, y6, y7, y8, y9, rfl, W6, f6, nd, hl, mx⟩
      have hi8 : i < 8 := by omega
      refine ⟨_, rfl, .inl ⟨rfl, _, SqL.of f6⟩, _, rfl, _, rfl, fh, _, rfl, .inl (SqL.of f6), _, 1, rfl, rfl, s, c, _, rfl, W6.st, by rw [List.length_map]; omega, by rw [List.length_map]; omega, fun a H7 a0 a1 st7 off7 => ?_⟩
      rw [List.length_map, hl] at a1
      have W7 := W6.off st7 off7
      have f7 := (off7 fh hs1 hc1).trans f6
      have g0 : 0 ≤ g ∧ g ≤ 999 := by
        simp only [List.mem_cons, List.not_mem_nil, or_false] at hgm
        omega
      refine ⟨_, rfl, _, rfl, _, rfl, g, _, rfl, rfl, .inl ⟨by omega, by omega⟩, f, _, rfl, rfl, _, _, rfl, rfl, (by show (1000 : Int) ≠ 0; decide), fh, _, a, _, rfl, rfl, f7, len8 (by rw [List.length_map]; omega), a0, by omega, ?_⟩
      have em : 0 + (i : Int) = (i : Int) := by omega
      rw [em]
      have pm : (xs.take a.toNat ++ [(f + g * (i : Int)).fmod 1000] ++ xs.drop a.toNat).Perm ((f + g * (i : Int)).fmod 1000 :: xs) := by
        rw [List.append_assoc]
        refine List.perm_middle.trans ?_
        show ((f + g * (i : Int)).fmod 1000 :: (xs.take a.toNat ++ xs.drop a.toNat)).Perm _
        rw [List.take_append_drop]
      refine ⟨xs.take a.toNat ++ [(f + g * (i : Int)).fmod 1000] ++ xs.drop a.toNat, _, _, _, _, rfl, W7.mut hB1 hs1 hc1, ?_, ?_, by rw [pm.length_eq, List.length_cons, hl], fun x hx => ?_⟩
      · rw [upd_same, List.map_append, List.map_append, List.map_take, List.map_drop]
        rfl
      · refine pm.symm.nodup (List.nodup_cons.mpr ⟨fun hm => ?_, nd⟩)
        obtain ⟨j, hj, e⟩ := mx _ hm
        exact absurd (step_ne hgm hi8 (by omega) e) (by omega)
      · rcases List.mem_cons.mp (pm.mem_iff.mp hx) with e | hx
        · exact ⟨i, by omega, e⟩
        · obtain ⟨j, hj, e⟩ := mx x hx
          exact ⟨j, by omega, e⟩
    · rintro σ H6 ⟨ps, y6, y7, y8, y9, rfl, W6, f6, nd, hl, mx⟩
      have hP : Places ps := ⟨nd, by omega, by omega, fun x hx => by
        obtain ⟨j, _, rfl⟩ := mx x hx
        have := fmod_bd (a := f + g * (j : Int)) (m := 1000) (by decide)
        omega⟩
      have l2 : 2 ≤ ps.length := by omega
      have l8 := hP.l1
      have V6 := W6.know f6 hs1 hc1
      have eB1 : Ex B (upd B fh (.lst (ps.map V.int))) := ex_know hB1
      have fhB : (upd B fh (.lst (ps.map V.int))) fh = some (.lst (ps.map V.int)) := upd_same
      generalize upd B fh (.lst (ps.map V.int)) = B1 at V6 eB1 fhB
      -- links = []
      refine ⟨Nat.zero_le _, fun fl hfl => ?_⟩
      have ls1 := V6.st.ne_s hfl
      have lc1 := V6.st.ne_c hfl
      have lB1 := V6.none_of hfl
      have W7 := V6.ext (Ex.new (o := .lst []) hfl)
      refine ⟨_, rfl, _, rfl, s, c, n, rfl, W7.st, by omega, by omega, fun q1 H8 q0 q1' st8 off8 => ⟨1, q1, rfl, rfl, 1 + q1, rfl, by omega, by omega, ?_⟩⟩
      have W8 := W7.off st8 off8
      refine for_range (lo := 0) (n := (1 + q1).toNat) (fun i σ H' => ∃ (ts : List V) (rs : List Row) (Bi : Hp) (y6 y8 y9 : Option V), σ = [some (.ref s), some (.int m), some (.int n), some (.int f), some (.int g), some (.ref fh), y6, some (.ref fl), y8, y9] ∧ Wd s c Bi H' ∧
        Ex B1 Bi ∧ Bi fl = none ∧ H' fl = some (.lst ts) ∧ RowsAt Bi ts rs ∧ i ≤ rs.length ∧ rs.length ≤ 2 * i ∧ 2 * (rs.length : Int) ≤ n + 2 * i ∧ ∀ r ∈ rs, RoadOk ps r) ⟨[], [], B1, _, _, _, rfl, W8, Ex.refl _, lB1, (off8 fl ls1 lc1).trans upd_same, .nil, Nat.le_refl _, Nat.le_refl _, by show (2 : Int) * ((0 : Nat) : Int) ≤ n + 2 * ((0 : Nat) : Int); omega, fun x hx => nomatch hx⟩ ?_ ?_
      · rintro i σ H9 hi ⟨ts, rs, Bi, y6, y8, y9, rfl, W9, eB, lB, f9, hrs, g1, g2, g3, ok⟩
        have lts := hrs.len
        have hb9 := eB _ _ fhB
        -- at
        refine ⟨_, rfl, _, rfl, fh, _, rfl, .inl (SqL.of (W9.ex _ _ hb9)), s, c, _, rfl, W9.st, by rw [List.length_map]; omega, by rw [List.length_map]; omega, fun k H10 k0 k1 st10 off10 => ?_⟩
        rw [List.length_map] at k1
        have W10 := W9.off st10 off10
        have f10 := (off10 fl ls1 lc1).trans f9
        obtain ⟨one, ho, hoa, hom⟩ := ints_at k0 k1
        -- other
        refine ⟨_, rfl, _, rfl, _, _, rfl, rfl, _, rfl, _, rfl, fh, _, rfl, .inl (SqL.of (W10.ex _ _ hb9)), _, 1, rfl, rfl, s, c, _, rfl, W10.st, by rw [List.length_map]; omega, by rw [List.length_map]; omega, fun j H11 j0 j1 st11 off11 => ?_⟩
        rw [List.length_map] at j1
        have W11 := W10.off st11 off11
        have f11 := (off11 fl ls1 lc1).trans f10
        have ib := fmod_bd (a := k + 1 + j) (m := (ps.length : Int)) (by omega)
        have ine : (k + 1 + j).fmod (ps.length : Int) ≠ k := fun e => by
          have e1 := Int.fmod_eq_emod_of_nonneg (k + 1 + j) (show (0 : Int) ≤ (ps.length : Int) by omega)
          rw [e1] at e
          by_cases h : k + 1 + j < (ps.length : Int)
          · rw [Int.emod_eq_of_lt (by omega) h] at e
            omega
          · have e2 : (k + 1 + j) % (ps.length : Int) = k + 1 + j - (ps.length : Int) := (Int.sub_emod_right _ _).symm.trans (Int.emod_eq_of_lt (by omega) (by omega))
            omega
        obtain ⟨oth, hx, hxa, hxm⟩ := ints_at ib.1 ib.2
        have ne : one ≠ oth := fun e => by
          have := nd_ix hP.nd ho (by rw [e]; exact hx)
          omega
        refine ⟨_, _, rfl, rfl, _, rfl, fh, _, rfl, .inl (SqL.of (W11.ex _ _ hb9)), _, _, rfl, rfl, by rw [List.length_map]; omega, fh, _, _, _, rfl, rfl, SqL.of (W11.ex _ _ hb9), by rw [List.length_map]; exact hxa, ?_⟩
        -- links.append((..))
        refine ⟨_, rfl, .inl ⟨rfl, _, SqL.of f11⟩, _, rfl, _, rfl, fh, _, k, _, rfl, rfl, SqL.of (W11.ex _ _ hb9), hoa, _, rfl, _, rfl, by show 2 ≤ sizeLine; decide, fun p2 hp2 => ?_⟩
        have W12 := W11.ext (Ex.new (o := .lst [.int 3, .int 30]) hp2)
        have f12 := Ex.new (o := .lst [.int 3, .int 30]) hp2 _ _ f11
        refine ⟨_, rfl, s, c, 2, rfl, W12.st, by decide, by decide, fun v H13 v0 v1 st13 off13 => ?_⟩
        have W13 := W12.off st13 off13
        have f13 := (off13 fl ls1 lc1).trans f12
        have p13 : H13 p2 = some (.lst [.int 3, .int 30]) := (off13 p2 (W11.st.ne_s hp2) (W11.st.ne_c hp2)).trans upd_same
        obtain ⟨top, hz, z2, z3⟩ : ∃ z, atI [V.int 3, .int 30] v = some (.int z) ∧ 1 ≤ z ∧ z ≤ 30 := by
          have : v = 0 ∨ v = 1 := by omega
          rcases this with rfl | rfl
          · exact ⟨3, rfl, by omega, by omega⟩
          · exact ⟨30, rfl, by omega, by omega⟩
        refine ⟨p2, _, v, _, rfl, rfl, SqL.of p13, hz, s, c, top, rfl, W13.st, by omega, by omega, fun t H14 t0 t1 st14 off14 => ⟨1, t, rfl, rfl, by show 3 ≤ sizeLine; decide, fun u hu => ?_⟩⟩
        have W14 := W13.off st14 off14
        have f14 := (off14 fl ls1 lc1).trans f13
        have uB := W14.none_of hu
        have u15 : (upd H14 u (.tup [.int one, .int oth, .int (1 + t)])) u = some (.tup (rowV (one, oth, 1 + t))) := upd_same
        have f15 := Ex.new (o := .tup [.int one, .int oth, .int (1 + t)]) hu _ _ f14
        have W15 := (W14.ext (Ex.new (o := .tup [.int one, .int oth, .int (1 + t)]) hu)).know u15 (W14.st.ne_s hu) (W14.st.ne_c hu)
        have eu : Ex Bi (upd Bi u (.tup (rowV (one, oth, 1 + t)))) := Ex.new uB
        have lB' : (upd Bi u (.tup (rowV (one, oth, 1 + t)))) fl = none := by rw [upd_ne (ne_of_none f14 hu)]; exact lB
        have hrs' : RowsAt (upd Bi u (.tup (rowV (one, oth, 1 + t)))) (ts ++ [.ref u]) (rs ++ [(one, oth, 1 + t)]) := RowsAt.snoc upd_same (hrs.mono eu)
        have ok' : ∀ r ∈ rs ++ [(one, oth, 1 + t)], RoadOk ps r := fun x hx => by
          rcases List.mem_append.mp hx with hx | hx
          · exact ok x hx
          · obtain rfl := List.mem_singleton.mp hx
            exact ⟨hom, hxm, ne, by show 1 ≤ 1 + t; omega, by show 1 + t ≤ 30; omega⟩
        have ll : (rs ++ [(one, oth, 1 + t)]).length = rs.length + 1 := by rw [List.length_append, List.length_singleton]
        refine ⟨fl, _, _, rfl, rfl, f15, len8 (by omega), ?_⟩
        have W16 := W15.mut (o := .lst (ts ++ [.ref u])) lB' ls1 lc1
        have f16 : (upd (upd H14 u (.tup [.int one, .int oth, .int (1 + t)])) fl (.lst (ts ++ [.ref u]))) fl = some (.lst (ts ++ [.ref u])) := upd_same
        have lts' := hrs'.len
        have e16 := eB.trans eu
        generalize upd Bi u (.tup (rowV (one, oth, 1 + t))) = B2 at W16 lB' hrs' e16 eu
        dsimp only
        generalize upd (upd H14 u (.tup [.int one, .int oth, .int (1 + t)])) fl (.lst (ts ++ [.ref u])) = H16 at W16 f16 ⊢
        generalize hrr : rs ++ [(one, oth, 1 + t)] = rr at hrs' ok' ll lts'
        generalize ts ++ [V.ref u] = tt at f16 hrs' lts'
        -- another one
        refine ⟨_, rfl, s, c, 5, rfl, W16.st, by decide, by decide, fun v2 H17 w0 w1 st17 off17 => ?_⟩
        have W17 := W16.off st17 off17
        have f17 := (off17 fl ls1 lc1).trans f16
        have done : ∀ {y6 y8 y9 : Option V}, (∃ (ts : List V) (rs : List Row) (Bi : Hp) (z6 z8 z9 : Option V), [some (V.ref s), some (V.int m), some (V.int n), some (V.int f), some (V.int g), some (V.ref fh), y6, some (V.ref fl), y8, y9] = [some (.ref s), some (.int m), some (.int n), some (.int f), some (.int g), some (.ref fh), z6, some (.ref fl), z8, z9] ∧ Wd s c Bi H17 ∧
            Ex B1 Bi ∧ Bi fl = none ∧ H17 fl = some (.lst ts) ∧ RowsAt Bi ts rs ∧ i + 1 ≤ rs.length ∧ rs.length ≤ 2 * (i + 1) ∧ 2 * (rs.length : Int) ≤ n + 2 * ((i + 1 : Nat) : Int) ∧ ∀ r ∈ rs, RoadOk ps r) := fun {y6 y8 y9} =>
          ⟨tt, rr, B2, y6, y8, y9, rfl, W17, e16, lB', f17, hrs', by omega, by omega, by omega, ok'⟩
        refine ⟨rfl, _, rfl, ite2 (fun _ => ?_) (fun _ => done)⟩
        refine ⟨_, rfl, fl, _, rfl, .inl (SqL.of f17), _, rfl, _, _, rfl, rfl, _, rfl, ite2 (fun hlt => ?_) (fun _ => done)⟩
        have hlt := of_decide_eq_true hlt
        refine ⟨_, rfl, .inl ⟨rfl, _, SqL.of f17⟩, _, rfl, _, rfl, _, rfl, fh, _, k, _, rfl, rfl, SqL.of (W17.ex _ _ (eu _ _ hb9)), hoa, _, rfl, s, c, 4, rfl, W17.st, by decide, by decide, fun t2 H18 t3 t4 st18 off18 => ⟨1, t2, rfl, rfl, by show 3 ≤ sizeLine; decide, fun u2 hu2 => ?_⟩⟩
        have W18 := W17.off st18 off18
        have f18 := (off18 fl ls1 lc1).trans f17
        have uB2 := W18.none_of hu2
        have u19 : (upd H18 u2 (.tup [.int oth, .int one, .int (1 + t2)])) u2 = some (.tup (rowV (oth, one, 1 + t2))) := upd_same
        have f19 := Ex.new (o := .tup [.int oth, .int one, .int (1 + t2)]) hu2 _ _ f18
        have W19 := (W18.ext (Ex.new (o := .tup [.int oth, .int one, .int (1 + t2)]) hu2)).know u19 (W18.st.ne_s hu2) (W18.st.ne_c hu2)
        have eu2 : Ex B2 (upd B2 u2 (.tup (rowV (oth, one, 1 + t2)))) := Ex.new uB2
        have lB2 : (upd B2 u2 (.tup (rowV (oth, one, 1 + t2)))) fl = none := by rw [upd_ne (ne_of_none f18 hu2)]; exact lB'
        refine ⟨fl, _, _, rfl, rfl, f19, len8 (by omega), ?_⟩
        refine ⟨_, rr ++ [(oth, one, 1 + t2)], _, _, _, _, rfl, W19.mut lB2 ls1 lc1, e16.trans eu2, lB2, upd_same, RowsAt.snoc upd_same (hrs'.mono eu2), ?_, ?_, ?_, fun x hx => ?_⟩
        · rw [List.length_append, List.length_singleton]; omega
        · rw [List.length_append, List.length_singleton]; omega
        · rw [List.length_append, List.length_singleton]; omega
        · rcases List.mem_append.mp hx with hx | hx
          · exact ok' x hx
          · obtain rfl := List.mem_singleton.mp hx
            exact ⟨hxm, hom, fun e => ne e.symm, by show 1 ≤ 1 + t2; omega, by show 1 + t2 ≤ 30; omega⟩
      · rintro σ H9 ⟨ts, rs, Bi, y6, y8, y9, rfl, W9, eB, lB, f9, hrs, g1, g2, g3, ok⟩
        have e9 : Ex Bi (upd Bi fl (.lst ts)) := Ex.new lB
        have V9 := W9.know f9 ls1 lc1
        have fl9 : (upd Bi fl (.lst ts)) fl = some (.lst ts) := upd_same
        generalize upd Bi fl (.lst ts) = B9 at V9 e9 fl9
        refine go_U (eu_tup (ea_cons (ev_var rfl) (ea_cons (ev_var rfl) ea_nil)) (by show 2 ≤ 100000; decide)) fun t H10 ht e10 h10 => ?_
        have et : Ex B9 (upd B9 t (.tup [.ref fh, .ref fl])) := Ex.new (V9.none_of ht)
        exact q t fh fl ps ts rs _ H10 (eB1.trans (eB.trans (e9.trans et))) ((V9.ext e10).know h10 (V9.st.ne_s ht) (V9.st.ne_c ht)) upd_same (et _ _ (e9 _ _ (eB _ _ fhB))) (et _ _ fl9) (hrs.mono (e9.trans et)) hP ⟨by omega, ok⟩ (by omega) l2
theorem ok_any_ground (T : Tx K mg) : FnOk P w K mg base CX0 3 T.a_l_any_ground T.d_l_any_ground ["_law_state_here"] (sp_any K) := by
  have G_l_draw := ok_draw (P := P) (w := w) (base := base) T
  have G_l_ground := ok_ground (P := P) (w := w) (base := base) T
  refine T.F_l_any_ground.ok sc_l_any_ground (fun vs H Q E h => ?_) (fun cdv A outer s H vs Q E hr h => ?_)
  · obtain ⟨_, _, _, rfl, _⟩ := h
    rfl
  · obtain ⟨s, c, B, rfl, W, q⟩ := h
    refine ⟨_, (pss_one (ps_ret (pe_ifExp (pt_cmpR op_eq (pe_call G_l_draw (hr.mono (by decide)) (by rfl) T.g_l_draw T.F_l_draw.kp T.b_l_draw .nil pass0 (pa_cons (pv 0) (pa_cons pe_int pa_nil))) pe_int (nomark _)) (pe_call G_l_ground (hr.mono (by decide)) (by rfl) T.g_l_ground T.F_l_ground.kp T.b_l_ground .nil pass0 (pa_cons (pv 0) (pa_cons pe_int (pa_cons pe_int pa_nil)))) (pe_call G_l_ground (hr.mono (by decide)) (by rfl) T.g_l_ground T.F_l_ground.kp T.b_l_ground .nil pass0 (pa_cons (pv 0) (pa_cons pe_int (pa_cons pe_int pa_nil))))))), ?_⟩
    refine ⟨_, rfl, s, c, 6, rfl, W.st, by decide, by decide, fun z H1 z0 z1 st1 off1 => ⟨rfl, _, rfl, ite2 (fun _ => ?_) (fun _ => ?_)⟩⟩
    · exact ⟨_, rfl, s, c, B, 8, 8, rfl, W.off st1 off1, .inl ⟨rfl, rfl⟩, q⟩
    · exact ⟨_, rfl, s, c, B, 5, 6, rfl, W.off st1 off1, .inr ⟨rfl, rfl⟩, q⟩
/-- the other end -/
def other (r : Row) (h : Int) : Int := if r.1 = h then r.2.1 else r.1
def sp_lbeyond : Sp := fun vs H Q _ => ∃ (l : Addr) (ts : List V) (rs : List Row) (B : Hp) (k : Nat) (r : Row) (h : Int), vs = [.ref l, .int k, .int h] ∧ Ex B H ∧ B l = some (.lst ts) ∧ RowsAt B ts rs ∧ rs[k]? = some r ∧ ∀ H', Ex H H' → Q (.int (other r h)) H'
theorem paired_at0 {α β : Type} {R : α → β → Prop} : ∀ {xs : List α} {ys : List β} {i : Nat} {y : β}, Paired R xs ys → ys[i]? = some y → ∃ x, xs[i]? = some x ∧ R x y
  | _, _, _, _, .nil, e => by simp at e
  | _, _, 0, _, .cons r _, e => by simp at e; subst e; exact ⟨_, rfl, r⟩
  | _, _, i + 1, y, .cons _ t, e => by
    obtain ⟨x, h1, h2⟩ := paired_at0 (i := i) (y := y) t (by simpa using e)
    exact ⟨x, by simpa using h1, h2⟩
theorem ok_lbeyond (T : Tx K mg) : FnOk P w K mg base CX0 1 T.a_l_beyond T.d_l_beyond ["_law_links", "_law_at", "_law_end"] sp_lbeyond := by
  refine T.F_l_beyond.ok sc_l_beyond (fun vs H Q E h => ?_) (fun cdv A outer s H vs Q E hr h => ?_)
  · obtain ⟨_, _, _, _, _, _, _, rfl, _⟩ := h
    rfl
  · obtain ⟨l, ts, rs, B, k, r, h, rfl, eB, hl, hrs, hk, q⟩ := h
    refine ⟨_, (pss_one (ps_ret (pe_ifExp (pt_cmpR op_eq (pe_ix (ix_tupK (K := K) rfl) (pe_ix (ix_listK (K := K) rfl) (pv 0) (pv 1) (fun _ _ => rfl)) pe_int (fun _ _ => rfl)) (pv 2) (nomark _)) (pe_ix (ix_tupK (K := K) rfl) (pe_ix (ix_listK (K := K) rfl) (pv 0) (pv 1) (fun _ _ => rfl)) pe_int (fun _ _ => rfl)) (pe_ix (ix_tupK (K := K) rfl) (pe_ix (ix_listK (K := K) rfl) (pv 0) (pv 1) (fun _ _ => rfl)) pe_int (fun _ _ => rfl))))), ?_⟩
    obtain ⟨x, hx, a, rfl, ha⟩ := paired_at0 hrs hk
    have I : ∀ (j : Nat) {v : V} {H1 : Hp}, Ex H H1 → (rowV r)[j]? = some v → Ev (tOp (rIxT K) (tOp (rIxL K) (tVar 0) (tVar 1)) (tC (V.int j))) [some (.ref l), some (.int k), some (.int h)] H1 v := fun j {v H1} e hj =>
      ev_op (ev_op (ev_var rfl) (ev_var rfl) (rv_ixL (SqL.of (e _ _ (eB _ _ hl))) (atI_nat hx))) ev_c (rv_ixT (SqT.of (e _ _ (eB _ _ ha))) (atI_nat hj))
    by_cases e : r.1 = h
    · refine s_ret (v := .int (other r h)) (ev_is (ev_if (b := true) (et_is (et_test (ev_op (I 0 (Ex.refl _) rfl) (ev_var rfl) (rv_eq rfl))) (by rw [e]; simp)) (fun _ => I 1 (Ex.refl _) rfl) (fun z => nomatch z)) (by unfold other; rw [if_pos e])) q
    · refine s_ret (v := .int (other r h)) (ev_is (ev_if (b := false) (et_is (et_test (ev_op (I 0 (Ex.refl _) rfl) (ev_var rfl) (rv_eq rfl))) (decide_eq_false fun z => e (V.int.inj z))) (fun z => nomatch z) (fun _ => I 0 (Ex.refl _) rfl)) (by unfold other; rw [if_neg e])) q
end
end K19

set_option maxHeartbeats 2000000
namespace K19
open PySem PySem.Spec PyProof.Rows L2 Evl MyG
/-! ### what makes a net -/
def sp_isnum : Sp := fun vs H Q _ => ∃ x t, vs = [x] ∧ AnyT H x t ∧ Q (.bl (t == "int")) H
def hallV : V → Bool
  | .int i => decide (0 ≤ i) && decide (i ≤ 999)
  | _ => false
def hallsB (xs : List V) : Bool := decide (1 ≤ xs.length) && (decide (xs.length ≤ 8) && (xs.all hallV && decide xs.Nodup))
def sp_areh : Sp := fun vs H Q _ => ∃ x t, vs = [x] ∧ AnyT H x t ∧ (t ≠ "list" → Q (.bl false) H) ∧ (t = "list" → ∃ a xs, x = .ref a ∧ H a = some (.lst xs) ∧ xs.length ≤ 1000 ∧ (∀ y ∈ xs, ∃ ty, AnyT H y ty) ∧ ∀ H', Ex H H' → Q (.bl (hallsB xs)) H')
theorem int_of' {H : Hp} {x : V} {t : String} (h : AnyT H x t) (e : t = "int") : ∃ i, x = .int i := by
  cases h with
  | int i => exact ⟨i, rfl⟩
  | _ => exact absurd e (by decide)
theorem int_of {H : Hp} {x : V} (h : AnyT H x "int") : ∃ i, x = .int i := int_of' h rfl
theorem not_int {H : Hp} {x : V} {t : String} (h : AnyT H x t) (ht : t ≠ "int") : hallV x = false := by
  cases h with
  | int i => exact absurd rfl ht
  | _ => rfl
theorem ints_of {xs : List V} (h : xs.all hallV = true) : ∃ ns : List Int, xs = ns.map V.int := by
  induction xs with
  | nil => exact ⟨[], rfl⟩
  | cons x r ih =>
    rw [List.all_cons, Bool.and_eq_true] at h
    obtain ⟨ns, rfl⟩ := ih h.2
    cases x with
    | int i => exact ⟨i :: ns, rfl⟩
    | _ => exact absurd h.1 (by simp [hallV])
theorem nodup_ints {ns : List Int} : (ns.map V.int).Nodup ↔ ns.Nodup := by
  constructor
  · intro h
    exact List.Pairwise.of_map V.int (fun a b (hab : V.int a ≠ V.int b) (e : a = b) => hab (by rw [e])) h
  · intro h
    exact List.Pairwise.map _ (fun a b (hab : a ≠ b) (e : V.int a = V.int b) => hab (V.int.inj e)) h
section
variable {P : Program} {w : World} {K : PySem.W.Frag} {mg : Str → Option Value} {base : Heap}
theorem ok_isnum (T : Tx K mg) : FnOk P w K mg base CX0 1 T.a_is_number T.d_is_number ["thing"] sp_isnum := by
  refine T.F_is_number.ok sc_is_number (fun vs H Q E h => ?_) (fun cdv A outer s H vs Q E hr h => ?_)
  · obtain ⟨_, _, rfl, _⟩ := h
    rfl
  · obtain ⟨x, t, rfl, ht, q⟩ := h
    refine ⟨_, (pss_one (ps_ret (pe_and (pe_callB (isiK (K := K) rfl) (by rfl) T.z_isinstance (by decide +kernel) (pa_cons (pv 0) (pa_cons (pe_bltn (v := .ty "int") (by rfl) T.z_int (by decide +kernel) rfl) pa_nil))) (pe_one (pe_not (pe_callB (isiK (K := K) rfl) (by rfl) T.z_isinstance (by decide +kernel) (pa_cons (pv 0) (pa_cons (pe_bltn (v := .ty "bool") (by rfl) T.z_bool (by decide +kernel) rfl) pa_nil)))))))), ?_⟩
    refine ⟨_, rfl, ?_⟩
    refine ⟨_, .ty "int", _, .type "int", _, rfl, .ty _, ht.ty, kit_ty (kit_all ht.mem).1, ?_⟩
    refine ⟨_, rfl, ?_⟩
    cases hb : (t == "int" || t == "bool") with
    | true =>
      refine iteT ?_
      refine ⟨_, rfl, ?_⟩
      refine ⟨_, .ty "bool", _, .type "bool", _, rfl, .ty _, ht.ty, kit_ty (kit_all ht.mem).2.1, ?_⟩
      refine ⟨_, rfl, ?_⟩
      rw [Bool.or_eq_true] at hb
      rcases hb with e | e
      · rw [eq_of_beq e] at q ⊢
        exact q
      · rw [eq_of_beq e] at q ⊢
        exact q
    | false =>
      refine iteF ?_
      rw [Bool.or_eq_false_iff] at hb
      rw [hb.1] at q
      exact q
theorem ok_areh (T : Tx K mg) : FnOk P w K mg base CX0 2 T.a__are_halls T.d__are_halls ["things"] sp_areh := by
  have G_is_number := ok_isnum (P := P) (w := w) (base := base) T
  refine T.F__are_halls.ok sc__are_halls (fun vs H Q E h => ?_) (fun cdv A outer s H vs Q E hr h => ?_)
  · obtain ⟨_, _, rfl, _⟩ := h
    rfl
  · obtain ⟨x, t, rfl, ht, q1, q2⟩ := h
    refine ⟨_, (pss_one (ps_ret (pe_and (pe_callB (isiK (K := K) rfl) (by rfl) T.z_isinstance (by decide +kernel) (pa_cons (pv 0) (pa_cons (pe_bltn (v := .ty "list") (by rfl) T.z_list (by decide +kernel) rfl) pa_nil))) (pe_and (pe_chain op_le op_le pe_int (pe_callB (lenK (K := K) rfl) (by rfl) T.z_len (by decide +kernel) (pa_cons (pv 0) pa_nil)) (pe_glob (v := .int (8)) rfl T.v_MOST_HALLS ⟨_, rfl⟩)) (pe_and (pe_callB (allK (K := K) rfl rfl) (by rfl) T.z_all (by decide +kernel) (pa_cons (pe_lc (own := [("thing", 1)]) (g := (gName 1)) (tt := tYes) rfl sc__are_halls.nd (iListK (K := K) rfl (pv 0)) (blkOk_by (N := n__are_halls) (sc := defScope s__are_halls) (by decide +kernel)) (fun _ _ _ _ _ => (pg_name (i := 1) sc__are_halls.nd rfl (Or.inl rfl))) (fun _ _ _ _ _ => pts_nil) (fun _ _ _ _ _ => (pe_and (pe_call G_is_number (hr.mono (by decide)) (by rfl) T.g_is_number T.F_is_number.kp T.b_is_number .nil pass0 (pa_cons (pv 1) pa_nil)) (pe_one (pe_chain op_le op_le pe_int (pv 1) (pe_glob (v := .int (999)) rfl T.v_LAST_HALL ⟨_, rfl⟩)))))) pa_nil)) (pe_one (pe_cmpR op_eq (lenSetK (K := K) rfl (by rfl) T.z_len (by rfl) T.z_set (pv 0)) (pe_callB (lenK (K := K) rfl) (by rfl) T.z_len (by decide +kernel) (pa_cons (pv 0) pa_nil)) (nomark _)))))))), ?_⟩
    refine ⟨_, rfl, ?_⟩
    refine ⟨_, .ty "list", _, .type "list", _, rfl, .ty _, ht.ty, kit_ty (kit_all ht.mem).2.2.1, ?_⟩
    refine ⟨_, rfl, ?_⟩
    by_cases e : t = "list"
    · subst e
      obtain ⟨a, xs, rfl, ha, hz, hany, q⟩ := q2 rfl
      refine iteT ?_
      -- 1 <= len(things) <= MOST_HALLS
      refine ⟨_, rfl, a, _, rfl, .inl (SqL.of ha), 1, _, rfl, rfl, _, rfl, ?_⟩
      by_cases l1 : 1 ≤ xs.length
      · rw [decide_eq_true (show (1 : Int) ≤ (xs.length : Int) by omega)]
        refine iteT ⟨_, 8, rfl, rfl, _, rfl, ?_⟩
        by_cases l2 : xs.length ≤ 8
        · rw [decide_eq_true (show (xs.length : Int) ≤ 8 by omega)]
          refine iteT ?_
          -- all([..])
          refine un_and (un_cb (un_cons ?_))
          refine go_L (el_map (ys := (xs.map hallV).map V.bl) (ev_var rfl) (SqL.of ha) (by omega) (by simp) (fun _ => rfl) (fun i x y H1 e1 hx hy => ?_)) (fun p H1 hp e1 h1 => ?_)
          · have hxm := List.mem_of_getElem? hx
            rw [List.map_map, List.getElem?_map, hx] at hy
            obtain rfl := Option.some.inj hy
            obtain ⟨ty, hty⟩ := hany x hxm
            intro H2 e2 Q q
            refine ⟨_, rfl, x, ty, rfl, (hty.ext e1).ext e2, _, rfl, ?_⟩
            by_cases ei : ty = "int"
            · subst ei
              obtain ⟨i, rfl⟩ := int_of hty
              refine iteT ⟨_, rfl, 0, i, rfl, rfl, _, rfl, ?_⟩
              by_cases h0 : 0 ≤ i
              · rw [decide_eq_true h0]
                refine iteT ⟨i, 999, rfl, rfl, ?_⟩
                have z := q H2 (Ex.refl _)
                show Q (.bl (decide (i ≤ 999))) H2
                have ez : hallV (.int i) = decide (i ≤ 999) := by
                  show (decide (0 ≤ i) && decide (i ≤ 999)) = _
                  rw [decide_eq_true h0, Bool.true_and]
                rw [← ez]
                exact z
              · rw [decide_eq_false h0]
                refine iteF ?_
                have z := q H2 (Ex.refl _)
                have ez : hallV (.int i) = false := by
                  show (decide (0 ≤ i) && decide (i ≤ 999)) = _
                  rw [decide_eq_false h0, Bool.false_and]
                rw [← ez]
                exact z
            · have eb : (ty == "int") = false := beq_eq_false_iff_ne.mpr ei
              rw [eb]
              refine iteF ?_
              have z := q H2 (Ex.refl _)
              have ez := not_int hty ei
              rw [← ez]
              exact z
          · refine ⟨p, xs.map hallV, rfl, SqL.of h1, _, rfl, ?_⟩
            have eall : (xs.map hallV).all id = xs.all hallV := by rw [List.all_map]; rfl
            rw [eall]
            cases hall : xs.all hallV with
            | true =>
              refine iteT ?_
              -- len(set(things)) == len(things)
              obtain ⟨ns, rfl⟩ := ints_of hall
              refine ⟨_, rfl, a, ns, rfl, SqL.of (e1 _ _ ha), by rw [List.length_map] at hz; omega, fun n hn => ⟨_, rfl, a, _, rfl, .inl (SqL.of (e1 _ _ ha)), rfl, ?_⟩⟩
              have z := q H1 e1
              have ez : hallsB (ns.map V.int) = decide (V.int (n : Int) = V.int ((ns.map V.int).length : Nat)) := by
                unfold hallsB
                rw [decide_eq_true l1, decide_eq_true l2, hall, Bool.true_and, Bool.true_and, Bool.true_and]
                refine decide_eq_decide.mpr (nodup_ints.trans (hn.symm.trans ?_))
                rw [List.length_map]
                exact ⟨fun e => by rw [e], fun e => by have := V.int.inj e; omega⟩
              rw [← ez]
              exact z
            | false =>
              refine iteF ?_
              have z := q H1 e1
              have ez : hallsB xs = false := by
                unfold hallsB
                rw [hall, Bool.false_and, Bool.and_false, Bool.and_false]
              rw [ez] at z
              exact z
        · rw [decide_eq_false (show ¬ (xs.length : Int) ≤ 8 by omega)]
          refine iteF ?_
          have z := q H (Ex.refl _)
          have ez : hallsB xs = false := by
            unfold hallsB
            rw [decide_eq_false l2, Bool.false_and, Bool.and_false]
          rw [ez] at z
          exact z
      · rw [decide_eq_false (show ¬ (1 : Int) ≤ (xs.length : Int) by omega)]
        refine iteF ⟨_, rfl, iteF ?_⟩
        have z := q H (Ex.refl _)
        have ez : hallsB xs = false := by
          unfold hallsB
          rw [decide_eq_false l1, Bool.false_and]
        rw [ez] at z
        exact z
    · have eb : (t == "list") = false := beq_eq_false_iff_ne.mpr e
      rw [eb]
      exact iteF (q1 e)
end
end K19

set_option maxHeartbeats 2000000
namespace K19
open PySem PySem.Spec PyProof.Rows L2 Evl MyG
def linkB (hs : List Int) : List V → Bool
  | [.int a, .int b, .int c] => decide (a ∈ hs) && (decide (b ∈ hs) && (!decide (a = b) && (decide (1 ≤ c) && decide (c ≤ 30))))
  | _ => false
def sp_isl : Sp := fun vs H Q _ => ∃ x t h hs, vs = [x, .ref h] ∧ AnyT H x t ∧ H h = some (.lst (hs.map V.int)) ∧ (t ≠ "tuple" → Q (.bl false) H) ∧
  (t = "tuple" → ∃ a xs, x = .ref a ∧ H a = some (.tup xs) ∧ xs.length ≤ 1000 ∧ (∀ y ∈ xs, ∃ ty, AnyT H y ty) ∧ ∀ H', Ex H H' → Q (.bl (linkB hs xs)) H')
theorem el_mapT {K : PySem.W.Frag} {σ : L2.St} {H : Hp} {te : TE} {a : Addr} {xs ys : List V} {tl : TE} {j : Nat} {vs : List Nat} (h : Ev tl σ H (.ref a)) (hx : SqT K H a xs) (hz : xs.length ≤ 40000) (hl : ys.length = xs.length)
    (hw : ∀ x, wipe ((wipe σ vs).set j (some x)) vs = wipe σ vs) (he : ∀ (i : Nat) (x y : V) H1, Ex H H1 → xs[i]? = some x → ys[i]? = some y → Ev te ((wipe σ vs).set j (some x)) H1 y) : EvL (tLc (iTup K tl) (gName j) tYes te vs) σ H ys := fun H0 e Q q =>
  h H0 e _ fun H1 e1 => ⟨a, rfl, ⟨xs, ex_t (e.trans e1) hx⟩, fun Dl hD => by
    refine lc_tup (xs := xs) (fun i H' => Ex H1 H' ∧ H' Dl = some (.lst (ys.take i))) ⟨Ex.new hD, upd_same⟩ (fun i H' _ p => ex_t ((e.trans e1).trans p.1) hx) (fun i x H' hi p => ⟨hw x, un_yes (iteT ?_)⟩) (fun H' p => q Dl H' (fresh_back e1 hD) (e1.trans p.1) ?_)
    · have h1 := (List.getElem?_eq_some_iff.mp hi).1
      have h2 : i < ys.length := by omega
      refine he i x ys[i] H' ((e.trans e1).trans p.1) hi (List.getElem?_eq_getElem h2) H' (Ex.refl _) _ (fun H2 e2 => ⟨_, e2 _ _ p.2, ?_, (p.1.trans e2).mut hD, ?_⟩)
      · rw [List.length_take]; exact sz_lt (by omega)
      · rw [upd_same, List.take_add_one, List.getElem?_eq_getElem h2]; rfl
    · rw [p.2, ← hl, List.take_length]⟩
theorem link_no (hs : List Int) {xs : List V} (h : xs.all (fun x => match x with | .int _ => true | _ => false) = false) : linkB hs xs = false := by
  unfold linkB
  split
  · exact absurd h (by simp)
  · rfl
section
variable {P : Program} {w : World} {K : PySem.W.Frag} {mg : Str → Option Value} {base : Heap}
theorem ok_isl (T : Tx K mg) : FnOk P w K mg base CX0 2 T.a__is_link T.d__is_link ["thing", "halls"] sp_isl := by
  have G_is_number := ok_isnum (P := P) (w := w) (base := base) T
  refine T.F__is_link.ok sc__is_link (fun vs H Q E h => ?_) (fun cdv A outer s H vs Q E hr h => ?_)
  · obtain ⟨_, _, _, _, rfl, _⟩ := h
    rfl
  · obtain ⟨x, t, h, hs, rfl, ht, hh, q1, q2⟩ := h
    refine ⟨_, (pss_cons (ps_if (PW.pt (pw_or (pt_not (pt_val (pe_callB (isiK (K := K) rfl) (by rfl) T.z_isinstance (by decide +kernel) (pa_cons (pv 0) (pa_cons (pe_bltn (v := .ty "tuple") (by rfl) T.z_tuple (by decide +kernel) rfl) pa_nil))))) (pw_or1 (pt_cmpR op_ne (pe_callB (lenK (K := K) rfl) (by rfl) T.z_len (by decide +kernel) (pa_cons (pv 0) pa_nil)) pe_int (nomark _))))) (pss_one (ps_ret pe_bl)) pss_nil)
  (pss_cons (ps_if (pt_not (pt_val (pe_callB (allK (K := K) rfl rfl) (by rfl) T.z_all (by decide +kernel) (pa_cons (pe_lc (own := [("part", 5)]) (g := (gName 5)) (tt := tYes) rfl sc__is_link.nd (iTupK (K := K) rfl (pv 0)) (blkOk_by (N := n__is_link) (sc := defScope s__is_link) (by decide +kernel)) (fun _ _ _ _ _ => (pg_name (i := 5) sc__is_link.nd rfl (Or.inl rfl))) (fun _ _ _ _ _ => pts_nil) (fun _ _ _ _ _ => (pe_call G_is_number (hr.mono (by decide)) (by rfl) T.g_is_number T.F_is_number.kp T.b_is_number .nil pass0 (pa_cons (pv 5) pa_nil)))) pa_nil)))) (pss_one (ps_ret pe_bl)) pss_nil)
  (pss_cons (ps_asg (pv 0) (pg_tup rfl (pgs_cons (pg_name (i := 2) sc__is_link.nd rfl (Or.inl rfl)) (pgs_cons (pg_name (i := 3) sc__is_link.nd rfl (Or.inl rfl)) (pgs_cons (pg_name (i := 4) sc__is_link.nd rfl (Or.inl rfl)) pgs_nil)))))
  (pss_one (ps_ret (pe_and (pe_cmpR (op_inK (K := K) rfl) (pv 2) (pv 1) (by rfl)) (pe_and (pe_cmpR (op_inK (K := K) rfl) (pv 3) (pv 1) (by rfl)) (pe_and (pe_cmpR op_ne (pv 2) (pv 3) (nomark _)) (pe_one (pe_chain op_le op_le pe_int (pv 4) (pe_glob (v := .int (30)) rfl T.v_MOST_COST ⟨_, rfl⟩))))))))))), ?_⟩
    refine ⟨_, rfl, ?_⟩
    refine ⟨_, .ty "tuple", _, .type "tuple", _, rfl, .ty _, ht.ty, kit_ty (kit_all ht.mem).2.2.2.1, _, rfl, ?_⟩
    by_cases e : t = "tuple"
    · subst e
      obtain ⟨a, xs, rfl, ha, hz, hany, q⟩ := q2 rfl
      refine iteF ?_
      -- len(thing) != 3
      refine ⟨_, rfl, a, _, rfl, .inr (SqT.of ha), rfl, _, rfl, ?_⟩
      by_cases l3 : xs.length = 3
      · rw [show decide (V.int (xs.length : Nat) = V.int 3) = true from decide_eq_true (by rw [l3]; rfl)]
        refine iteF ?_
        -- if not all([..])
        let isI : V → Bool := fun x => match x with | .int _ => true | _ => false
        refine un_next ?_
        dsimp only
        refine un_seq (un_if (un_not (un_tB (un_cb (un_cons ?_)))))
        refine go_L (el_mapT (ys := (xs.map isI).map V.bl) (ev_var rfl) (SqT.of ha) (by omega) (by simp) (fun _ => rfl) (fun i x y H1 e1 hx hy => ?_)) (fun p H1 hp e1 h1 => ?_)
        · have hxm := List.mem_of_getElem? hx
          rw [List.map_map, List.getElem?_map, hx] at hy
          obtain rfl := Option.some.inj hy
          obtain ⟨ty, hty⟩ := hany x hxm
          intro H2 e2 Q q
          refine ⟨_, rfl, x, ty, rfl, (hty.ext e1).ext e2, ?_⟩
          have z := q H2 (Ex.refl _)
          have ez : isI x = (ty == "int") := by
            cases hty <;> rfl
          rw [← ez]
          exact z
        · refine ⟨p, xs.map isI, rfl, SqL.of h1, _, rfl, ?_⟩
          have eall : (xs.map isI).all id = xs.all isI := by rw [List.all_map]; rfl
          rw [eall]
          cases hall : xs.all isI with
          | false =>
            refine iteT ?_
            have z := q H1 e1
            rw [link_no hs hall] at z
            exact z
          | true =>
            refine iteF ?_
            obtain ⟨o, u, v, rfl⟩ : ∃ o u v : Int, xs = [.int o, .int u, .int v] := by
              match xs, l3, hall with
              | [x1, x2, x3], _, hall =>
                rw [List.all_eq_true] at hall
                have f : ∀ x, isI x = true → ∃ i, x = .int i := fun x hx => by
                  cases x with
                  | int i => exact ⟨i, rfl⟩
                  | _ => exact absurd hx (by simp [isI])
                obtain ⟨o, rfl⟩ := f x1 (hall x1 (by simp))
                obtain ⟨u, rfl⟩ := f x2 (hall x2 (by simp))
                obtain ⟨v, rfl⟩ := f x3 (hall x3 (by simp))
                exact ⟨o, u, v, rfl⟩
            have hh1 := e1 _ _ hh
            -- one, other, cost = thing
            refine ⟨_, rfl, a, _, rfl, SqT.of (e1 _ _ ha), rfl, _, _, rfl, _, _, rfl, _, _, rfl, rfl, ?_⟩
            -- return ..
            have z := q H1 e1
            have ez : linkB hs [.int o, .int u, .int v] = (decide (o ∈ hs) && (decide (u ∈ hs) && (!decide (o = u) && (decide (1 ≤ v) && decide (v ≤ 30))))) := rfl
            rw [ez] at z
            refine ⟨_, rfl, _, rfl, h, _, rfl, .inl (SqL.of hh1), rfl, flat_ints hs, _, rfl, ?_⟩
            rw [inV_ints]
            cases d1 : decide (o ∈ hs) with
            | false =>
              rw [d1] at z
              exact iteF z
            | true =>
              rw [d1] at z
              refine iteT ⟨_, rfl, _, rfl, h, _, rfl, .inl (SqL.of hh1), rfl, flat_ints hs, _, rfl, ?_⟩
              rw [inV_ints]
              cases d2 : decide (u ∈ hs) with
              | false =>
                rw [d2] at z
                exact iteF z
              | true =>
                rw [d2] at z
                refine iteT ⟨_, rfl, _, rfl, rfl, _, rfl, ?_⟩
                have e3 : decide (V.int o = V.int u) = decide (o = u) := decide_eq_decide.mpr ⟨fun e => V.int.inj e, fun e => by rw [e]⟩
                rw [e3]
                cases d3 : decide (o = u) with
                | true =>
                  rw [d3] at z
                  exact iteF z
                | false =>
                  rw [d3] at z
                  refine iteT ⟨_, rfl, 1, v, rfl, rfl, _, rfl, ?_⟩
                  cases d4 : decide (1 ≤ v) with
                  | false =>
                    rw [d4] at z
                    exact iteF z
                  | true =>
                    rw [d4] at z
                    exact iteT ⟨v, 30, rfl, rfl, z⟩
      · rw [show decide (V.int (xs.length : Nat) = V.int 3) = false from decide_eq_false (fun e => l3 (by have := V.int.inj e; omega))]
        refine iteT ?_
        have z := q H (Ex.refl _)
        have ez : linkB hs xs = false := by
          unfold linkB
          split
          · exact absurd rfl l3
          · rfl
        rw [ez] at z
        exact z
    · have eb : (t == "tuple") = false := beq_eq_false_iff_ne.mpr e
      rw [eb]
      exact iteT (q1 e)
end
end K19

set_option maxHeartbeats 2000000
namespace K19
open PySem PySem.Spec PyProof.Rows L2 Evl MyG
/-- what each thing of a list of links is: a tuple of these, or none -/
def ThingsAt (H : Hp) : List V → List (Option (List V)) → Prop := Paired fun (x : V) (d : Option (List V)) => match d with
  | none => ∃ t, AnyT H x t ∧ t ≠ "tuple"
  | some ys => ∃ a, x = .ref a ∧ H a = some (.tup ys) ∧ ys.length ≤ 1000 ∧ ∀ y ∈ ys, ∃ ty, AnyT H y ty
def thingB (hs : List Int) : Option (List V) → Bool
  | none => false
  | some ys => linkB hs ys
def linksB (hs : List Int) (ds : List (Option (List V))) : Bool := decide (ds.length ≤ 12) && ds.all (thingB hs)
def sp_arel : Sp := fun vs H Q _ => ∃ x t h hs, vs = [x, .ref h] ∧ AnyT H x t ∧ H h = some (.lst (hs.map V.int)) ∧ (t ≠ "list" → Q (.bl false) H) ∧
  (t = "list" → ∃ a xs ds, x = .ref a ∧ H a = some (.lst xs) ∧ xs.length ≤ 1000 ∧ ThingsAt H xs ds ∧ ∀ H', Ex H H' → Q (.bl (linksB hs ds)) H')
theorem paired_at {α β : Type} {R : α → β → Prop} : ∀ {xs : List α} {ys : List β} {i : Nat} {x : α}, Paired R xs ys → xs[i]? = some x → ∃ y, ys[i]? = some y ∧ R x y
  | _, _, _, _, .nil, e => by simp at e
  | _, _, 0, _, .cons r _, e => by simp at e; subst e; exact ⟨_, rfl, r⟩
  | _, _, i + 1, x, .cons _ t, e => by
    obtain ⟨y, h1, h2⟩ := paired_at (i := i) (x := x) t (by simpa using e)
    exact ⟨y, by simpa using h1, h2⟩
section
variable {P : Program} {w : World} {K : PySem.W.Frag} {mg : Str → Option Value} {base : Heap}
theorem ok_arel (T : Tx K mg) : FnOk P w K mg base CX0 3 T.a__are_links T.d__are_links ["things", "halls"] sp_arel := by
  have G__is_link := ok_isl (P := P) (w := w) (base := base) T
  refine T.F__are_links.ok sc__are_links (fun vs H Q E h => ?_) (fun cdv A outer s H vs Q E hr h => ?_)
  · obtain ⟨_, _, _, _, rfl, _⟩ := h
    rfl
  · obtain ⟨x, t, h, hs, rfl, ht, hh, q1, q2⟩ := h
    refine ⟨_, (pss_one (ps_ret (pe_and (pe_callB (isiK (K := K) rfl) (by rfl) T.z_isinstance (by decide +kernel) (pa_cons (pv 0) (pa_cons (pe_bltn (v := .ty "list") (by rfl) T.z_list (by decide +kernel) rfl) pa_nil))) (pe_and (pe_cmpR op_le (pe_callB (lenK (K := K) rfl) (by rfl) T.z_len (by decide +kernel) (pa_cons (pv 0) pa_nil)) (pe_glob (v := .int (12)) rfl T.v_MOST_LINKS ⟨_, rfl⟩) (nomark _)) (pe_one (pe_callB (allK (K := K) rfl rfl) (by rfl) T.z_all (by decide +kernel) (pa_cons (pe_lc (own := [("thing", 2)]) (g := (gName 2)) (tt := tYes) rfl sc__are_links.nd (iListK (K := K) rfl (pv 0)) (blkOk_by (N := n__are_links) (sc := defScope s__are_links) (by decide +kernel)) (fun _ _ _ _ _ => (pg_name (i := 2) sc__are_links.nd rfl (Or.inl rfl))) (fun _ _ _ _ _ => pts_nil) (fun _ _ _ _ _ => (pe_call G__is_link (hr.mono (by decide)) (by rfl) T.g__is_link T.F__is_link.kp T.b__is_link .nil pass0 (pa_cons (pv 2) (pa_cons (pv 1) pa_nil))))) pa_nil))))))), ?_⟩
    refine ⟨_, rfl, ?_⟩
    refine ⟨_, .ty "list", _, .type "list", _, rfl, .ty _, ht.ty, kit_ty (kit_all ht.mem).2.2.1, _, rfl, ?_⟩
    by_cases e : t = "list"
    · subst e
      obtain ⟨a, xs, ds, rfl, ha, hz, hds, q⟩ := q2 rfl
      have ldx : xs.length = ds.length := Paired.length hds
      refine iteT ?_
      -- len(things) <= MOST_LINKS
      refine ⟨_, rfl, a, _, rfl, .inl (SqL.of ha), _, 12, rfl, rfl, _, rfl, ?_⟩
      by_cases l2 : xs.length ≤ 12
      · rw [decide_eq_true (show (xs.length : Int) ≤ 12 by omega)]
        refine iteT ?_
        refine un_cb (un_cons ?_)
        refine go_L (el_map (ys := (ds.map (thingB hs)).map V.bl) (ev_var rfl) (SqL.of ha) (by omega) (by simp [ldx]) (fun _ => rfl) (fun i x y H1 e1 hx hy => ?_)) (fun p H1 hp e1 h1 => ?_)
        · obtain ⟨d, hd, hR⟩ := paired_at hds hx
          rw [List.map_map, List.getElem?_map, hd] at hy
          obtain rfl := Option.some.inj hy
          intro H2 e2 Q q
          have z := q H2 (Ex.refl _)
          have ee := e1.trans e2
          cases d with
          | none =>
            obtain ⟨t, hty, hne⟩ := hR
            exact ⟨_, rfl, _, rfl, x, t, h, hs, rfl, hty.ext ee, ee _ _ hh, fun _ => z, fun e => absurd e hne⟩
          | some ys =>
            obtain ⟨b, rfl, hb, hbl, hby⟩ := hR
            exact ⟨_, rfl, _, rfl, .ref b, "tuple", h, hs, rfl, .tup (ee _ _ hb), ee _ _ hh, fun e => absurd rfl e, fun _ => ⟨b, ys, rfl, ee _ _ hb, hbl, fun y hy => let ⟨ty, k⟩ := hby y hy; ⟨ty, k.ext ee⟩, fun H3 e3 => q H3 e3⟩⟩
        · refine ⟨p, ds.map (thingB hs), rfl, SqL.of h1, ?_⟩
          have z := q H1 e1
          have eall : (ds.map (thingB hs)).all id = linksB hs ds := by
            unfold linksB
            rw [decide_eq_true (show ds.length ≤ 12 by omega), Bool.true_and, List.all_map]
            rfl
          rw [eall]
          exact z
      · rw [decide_eq_false (show ¬ (xs.length : Int) ≤ 12 by omega)]
        refine iteF ?_
        have z := q H (Ex.refl _)
        have ez : linksB hs ds = false := by
          unfold linksB
          rw [decide_eq_false (show ¬ ds.length ≤ 12 by omega), Bool.false_and]
        rw [ez] at z
        exact z
    · have eb : (t == "list") = false := beq_eq_false_iff_ne.mpr e
      rw [eb]
      exact iteF (q1 e)
end
/-! ### a net -/
def nf (h r l : Addr) : List (Str × V) := putF "_links" (.ref l) (putF "_rising" (.ref r) (putF "_handed" (.ref h) []))
theorem hr_ : ¬ (("_handed" : Str) = "_rising") := by decide +kernel
theorem hl_ : ¬ (("_handed" : Str) = "_links") := by decide +kernel
theorem rl_ : ¬ (("_rising" : Str) = "_links") := by decide +kernel
theorem nf_h (h r l : Addr) : (nf h r l).lookup ("_handed" : Str) = some (.ref h) := by
  unfold nf
  rw [lookup_putF, if_neg hl_, lookup_putF, if_neg hr_, lookup_putF, if_pos rfl]
theorem nf_r (h r l : Addr) : (nf h r l).lookup ("_rising" : Str) = some (.ref r) := by
  unfold nf
  rw [lookup_putF, if_neg rl_, lookup_putF, if_pos rfl]
theorem nf_l (h r l : Addr) : (nf h r l).lookup ("_links" : Str) = some (.ref l) := by
  unfold nf
  rw [lookup_putF, if_pos rfl]
theorem nf_no (h r l : Addr) {m : Str} (h1 : ¬ m = "_links") (h2 : ¬ m = "_rising") (h3 : ¬ m = "_handed") : (nf h r l).lookup m = none := by
  unfold nf
  rw [lookup_putF, if_neg h1, lookup_putF, if_neg h2, lookup_putF, if_neg h3]
  rfl
structure NetAt (C : Addr) (B : Hp) (n : Addr) (ps qs : List Int) (rs : List Row) : Prop where
  ex : ∃ dx h r l ts, B n = some (.ins C dx (nf h r l)) ∧ B h = some (.lst (ps.map V.int)) ∧ B r = some (.lst (qs.map V.int)) ∧ B l = some (.lst ts) ∧ RowsAt B ts rs
  pm : qs.Perm ps
  so : qs.Pairwise (· ≤ ·)
theorem halls_ok {ps : List Int} (h : Places ps) : hallsB (ps.map V.int) = true := by
  unfold hallsB
  rw [List.length_map, decide_eq_true h.l0, decide_eq_true h.l1, decide_eq_true (nodup_ints.mpr h.nd)]
  rw [Bool.true_and, Bool.true_and, Bool.and_true, List.all_map, List.all_eq_true]
  intro x hx
  obtain ⟨h0, h1⟩ := h.bd x hx
  show (decide (0 ≤ x) && decide (x ≤ 999)) = true
  rw [decide_eq_true h0, decide_eq_true h1]
  rfl
theorem links_ok {ps : List Int} {rs : List Row} (h : Roads ps rs) : linksB ps (rs.map fun r => some (rowV r)) = true := by
  unfold linksB
  rw [List.length_map, decide_eq_true h.len, Bool.true_and, List.all_map, List.all_eq_true]
  intro r hr
  have k := h.ok r hr
  show (decide (r.1 ∈ ps) && (decide (r.2.1 ∈ ps) && (!decide (r.1 = r.2.1) && (decide (1 ≤ r.2.2) && decide (r.2.2 ≤ 30))))) = true
  rw [decide_eq_true k.m1, decide_eq_true k.m2, decide_eq_false k.ne, decide_eq_true k.c0, decide_eq_true k.c1]
  rfl
theorem row_int {r : Row} {y : V} (h : y ∈ rowV r) : ∃ i, y = .int i := by
  simp only [rowV, List.mem_cons, List.not_mem_nil, or_false] at h
  rcases h with rfl | rfl | rfl <;> exact ⟨_, rfl⟩
theorem rows_things {B H : Hp} (e : Ex B H) : ∀ {ts : List V} {rs : List Row}, RowsAt B ts rs → ThingsAt H ts (rs.map fun r => some (rowV r))
  | _, _, .nil => .nil
  | _, _, .cons ⟨a, h1, h2⟩ t => .cons ⟨a, h1, e _ _ h2, by show 3 ≤ 1000; decide, fun y hy => by
      obtain ⟨i, rfl⟩ := row_int hy
      exact ⟨"int", .int i⟩⟩ (rows_things e t)
def sp_init (C : Addr) : Sp := fun vs H Q _ => ∃ (dx n a b : Addr) (ps : List Int) (ts : List V) (rs : List Row) (B : Hp), vs = [.ref n, .ref a, .ref b] ∧ H n = some (.ins C dx []) ∧ Ex B H ∧ B n = none ∧ H a = some (.lst (ps.map V.int)) ∧ H b = some (.lst ts) ∧
  Places ps ∧ Roads ps rs ∧ RowsAt B ts rs ∧ ∀ (H' : Hp) (h r l : Addr) (qs : List Int), (∀ x o, x ≠ n → H x = some o → H' x = some o) → H h = none → H r = none → H l = none → H' n = some (.ins C dx (nf h r l)) → H' h = some (.lst (ps.map V.int)) →
    H' r = some (.lst (qs.map V.int)) → qs.Perm ps → qs.Pairwise (· ≤ ·) → H' l = some (.lst ts) → Q .non H'
section
variable {P : Program} {w : World} {K : PySem.W.Frag} {mg : Str → Option Value} {base : Heap}
theorem ok_init (T : Tx K mg) : FnOk P w K mg base CX0 4 T.a_Net___init__ T.d_Net___init__ ["self", "halls", "links"] (sp_init T.c_Net) := by
  have G__are_halls := ok_areh (P := P) (w := w) (base := base) T
  have G__are_links := ok_arel (P := P) (w := w) (base := base) T
  refine T.F_Net___init__.ok sc_Net___init__ (fun vs H Q E h => ?_) (fun cdv A outer s H vs Q E hr h => ?_)
  · obtain ⟨_, _, _, _, _, _, _, _, rfl, _⟩ := h
    rfl
  · obtain ⟨dx, n, a, b, ps, ts, rs, B, rfl, hn, eB, nB, ha, hb, hP, hR, hrs, q⟩ := h
    refine ⟨_, (pss_cons (ps_if (pt_not (pt_val (pe_call G__are_halls (hr.mono (by decide)) (by rfl) T.g__are_halls T.F__are_halls.kp T.b__are_halls .nil pass0 (pa_cons (pv 1) pa_nil)))) (pss_one ps_never) pss_nil)
  (pss_cons (ps_if (pt_not (pt_val (pe_call G__are_links (hr.mono (by decide)) (by rfl) T.g__are_links T.F__are_links.kp T.b__are_links .nil pass0 (pa_cons (pv 2) (pa_cons (pv 1) pa_nil))))) (pss_one ps_never) pss_nil)
  (pss_cons (ps_fld (pv 0) (pe_callTy (listK (K := K) rfl) (by rfl) T.z_list (by decide +kernel) (pa_cons (pv 1) pa_nil)) rfl)
  (pss_cons (ps_fld (pv 0) (pe_callB (sortedK (K := K) rfl) (by rfl) T.z_sorted (by decide +kernel) (pa_cons (pv 1) pa_nil)) rfl)
  (pss_one (ps_fld (pv 0) (pe_callTy (listK (K := K) rfl) (by rfl) T.z_list (by decide +kernel) (pa_cons (pv 2) pa_nil)) rfl)))))), ?_⟩
    have lts := hrs.len
    refine ⟨_, rfl, .ref a, "list", rfl, .lst ha, fun e => absurd rfl e, fun _ => ⟨a, _, rfl, ha, by rw [List.length_map]; have := hP.l1; omega, fun y hy => ?_, fun H1 e1 => ⟨_, rfl, ?_⟩⟩⟩
    · obtain ⟨i, _, rfl⟩ := List.mem_map.mp hy
      exact ⟨"int", .int i⟩
    rw [halls_ok hP]
    refine iteF ?_
    refine ⟨_, rfl, _, rfl, .ref b, "list", a, ps, rfl, .lst (e1 _ _ hb), e1 _ _ ha, fun e => absurd rfl e, fun _ => ⟨b, ts, _, rfl, e1 _ _ hb, by have := hR.len; omega, rows_things (eB.trans e1) hrs, fun H2 e2 => ⟨_, rfl, ?_⟩⟩⟩
    rw [links_ok hR]
    refine iteF ?_
    have e12 := e1.trans e2
    have n2 := e12 _ _ hn
    -- self._handed = list(halls)
    refine ⟨_, rfl, a, _, rfl, .inl (SqL.of (e12 _ _ ha)), fun h hh => ?_⟩
    have nh := ne_of_none n2 hh
    refine ⟨_, rfl, n, T.c_Net, dx, [], rfl, (by rw [upd_ne nh]; exact n2), T.cl_Net, T.n_Net__handed, (by show 0 < 1000; decide), ?_⟩
    -- self._rising = sorted(halls)
    have na : a ≠ n := ne_of ha hn (by intro z; cases z)
    have nah := ne_of_none (e12 _ _ ha) hh
    refine ⟨_, rfl, a, ps, rfl, SqL.of (by rw [upd_ne na, upd_ne nah]; exact e12 _ _ ha), by have := hP.l1; omega, fun qs r hp hso hr' => ?_⟩
    have nrn : r ≠ n := fun z => by rw [z, upd_same] at hr'; cases hr'
    have nrh : r ≠ h := fun z => by rw [z, upd_ne nh.symm, upd_same] at hr'; cases hr'
    have hr0 : H2 r = none := by rw [upd_ne nrn, upd_ne nrh] at hr'; exact hr'
    refine ⟨_, rfl, n, T.c_Net, dx, _, rfl, Eq.trans (upd_ne nrn.symm) upd_same, T.cl_Net, T.n_Net__rising, (by show 1 < 1000; decide), ?_⟩
    -- self._links = list(links)
    have nb : b ≠ n := ne_of hb hn (by intro z; cases z)
    have nbh := ne_of_none (e12 _ _ hb) hh
    have nbr := ne_of_none (e12 _ _ hb) hr0
    refine ⟨_, rfl, b, ts, rfl, .inl (SqL.of (by rw [upd_ne nb, upd_ne nbr, upd_ne nb, upd_ne nbh]; exact e12 _ _ hb)), fun l hl => ?_⟩
    have nln : l ≠ n := fun z => by rw [z, upd_same] at hl; cases hl
    have nlr : l ≠ r := fun z => by rw [z, upd_ne nrn, upd_same] at hl; cases hl
    have nlh : l ≠ h := fun z => by rw [z, upd_ne nh.symm, upd_ne nrh.symm, upd_ne nh.symm, upd_same] at hl; cases hl
    have hl0 : H2 l = none := by rw [upd_ne nln, upd_ne nlr, upd_ne nln, upd_ne nlh] at hl; exact hl
    refine ⟨_, rfl, n, T.c_Net, dx, _, rfl, Eq.trans (upd_ne nln.symm) upd_same, T.cl_Net, T.n_Net__links, (by show 2 < 1000; decide), ?_⟩
    refine q _ h r l qs (fun x o hx e => ?_) (fresh_back e12 hh) (fresh_back e12 hr0) (fresh_back e12 hl0) upd_same ?_ ?_ hp hso ?_
    · have e2' := e12 _ _ e
      rw [upd_ne hx, upd_ne (ne_of_none e2' hl0), upd_ne hx, upd_ne (ne_of_none e2' hr0), upd_ne hx, upd_ne (ne_of_none e2' hh)]
      exact e2'
    · rw [upd_ne nh.symm, upd_ne nlh.symm, upd_ne nh.symm, upd_ne nrh.symm, upd_ne nh.symm, upd_same]
    · rw [upd_ne nrn, upd_ne nlr.symm, upd_ne nrn, upd_same]
    · rw [upd_ne nln, upd_same]
end
end K19

set_option maxHeartbeats 4000000
namespace K19
open PySem PySem.Spec PyProof.Rows L2 Evl MyG
/-! ### what many laws share: texts of data, nets made -/
/-- what can be shown -/
structure Shows (K : PySem.W.Frag) (H : Hp) (x : V) (d : PyData) : Prop where
  dp : Dp K H x d
  sh : d.showable = true
  nd : d.hasDict = false
  dt : d.depth ≤ 40
  ln : d.shown.length ≤ sizeLine
theorem Shows.of {K : PySem.W.Frag} {H : Hp} {x : V} {d : PyData} {k L : Nat} (h : Dp K H x d) (s : Small d k L) (hk : k ≤ 40 := by decide) (hL : L ≤ 16000000 := by decide) : Shows K H x d :=
  ⟨h, s.sh, s.nd, Nat.le_trans s.dp hk, Nat.le_trans (Nat.le_trans s.ln hL) (by rw [sizeLine_eq]; decide)⟩
theorem small_ints {ns : List Int} {N : Nat} (hl : ns.length ≤ N) (hb : ∀ x ∈ ns, x.natAbs < 10 ^ 9) : Small (.list (ns.map PyData.int)) 1 (N * 12 + 3) := by
  have h := small_list (k := 0) (L := 10) (ds := ns.map PyData.int) (fun d hd => by
    obtain ⟨x, hx, rfl⟩ := List.mem_map.mp hd
    exact small_int (hb x hx))
  refine h.mono (Nat.le_refl _) ?_
  rw [List.length_map]
  have := Nat.mul_le_mul_right 12 hl
  omega
theorem fork {te : TE} {σ : L2.St} {H : Hp} {Q : VK} (G : V → Hp → Prop) (h : ∀ K' : VK, (∀ x H', G x H' → K' x H') → te σ H K') (k : ∀ x H', G x H' → Q x H') : te σ H Q := h Q k
/-- a net that was made, and what it was made of, known behind -/
theorem net_made {s c : Addr} {B H3 H' : Hp} {C n dx h r l : Addr} {ps qs : List Int} {ts : List V} {rs : List Row} (W : Wd s c B H3) (hn : H3 n = none) (hdx : H3 dx = none)
    (frame : ∀ x o, x ≠ n → (upd (upd H3 dx (.own n)) n (.ins C dx [])) x = some o → H' x = some o) (hh : (upd (upd H3 dx (.own n)) n (.ins C dx [])) h = none) (hr : (upd (upd H3 dx (.own n)) n (.ins C dx [])) r = none) (hl : (upd (upd H3 dx (.own n)) n (.ins C dx [])) l = none)
    (e1 : H' n = some (.ins C dx (nf h r l))) (e2 : H' h = some (.lst (ps.map V.int))) (e3 : H' r = some (.lst (qs.map V.int))) (pm : qs.Perm ps) (so : qs.Pairwise (· ≤ ·)) (e4 : H' l = some (.lst ts)) (hrs : RowsAt B ts rs) :
    ∃ B3, Ex B B3 ∧ Wd s c B3 H' ∧ NetAt C B3 n ps qs rs ∧ (∀ x, B x = none → H3 x ≠ none → B3 x = none) ∧ Ex H3 H' := by
  have ne : ∀ {p : Addr}, (upd (upd H3 dx (.own n)) n (.ins C dx [])) p = none → p ≠ n ∧ H3 p = none := fun {p} hp => by
    have h1 : p ≠ n := fun z => by rw [z, upd_same] at hp; cases hp
    have h2 : p ≠ dx := fun z => by rw [upd_ne h1, z, upd_same] at hp; cases hp
    rw [upd_ne h1, upd_ne h2] at hp
    exact ⟨h1, hp⟩
  have exH : Ex H3 H' := fun x o e => frame x o (ne_of_none e hn) (by rw [upd_ne (ne_of_none e hn), upd_ne (ne_of_none e hdx)]; exact e)
  obtain ⟨hn1, h3⟩ := ne hh
  obtain ⟨rn1, r3⟩ := ne hr
  obtain ⟨ln1, l3⟩ := ne hl
  have W1 := W.ext exH
  have stn : ∀ {p : Addr}, H3 p = none → p ≠ s ∧ p ≠ c := fun hp => ⟨W.st.ne_s hp, W.st.ne_c hp⟩
  have W2 := W1.know e2 (stn h3).1 (stn h3).2
  have W3 := W2.know e3 (stn r3).1 (stn r3).2
  have W4 := W3.know e4 (stn l3).1 (stn l3).2
  have W5 := W4.know e1 (stn hn).1 (stn hn).2
  have step : ∀ {B : Hp} {p : Addr} {o : HO}, H' p = some o → Ex B H' → Ex B (upd B p o) := fun {B p o} hp eB a u ea => by
    by_cases z : a = p
    · rw [z, upd_same, ← hp, ← z]
      exact eB a u ea
    · rw [upd_ne z]; exact ea
  have eB := (step e2 W1.ex).trans ((step e3 W2.ex).trans ((step e4 W3.ex).trans (step e1 W4.ex)))
  refine ⟨_, eB, W5, ⟨⟨dx, h, r, l, ts, upd_same, ?_, ?_, ?_, hrs.mono eB⟩, pm, so⟩, fun x hx hk => ?_, exH⟩
  · have := W5.ex
    cases q : (upd (upd (upd (upd B h (.lst (ps.map V.int))) r (.lst (qs.map V.int))) l (.lst ts)) n (.ins C dx (nf h r l))) h with
    | some o => rw [← this _ _ q]; exact e2
    | none =>
      exfalso
      by_cases z1 : h = n
      · rw [z1, upd_same] at q; cases q
      by_cases z2 : h = l
      · rw [upd_ne z1, z2, upd_same] at q; cases q
      by_cases z3 : h = r
      · rw [upd_ne z1, upd_ne z2, z3, upd_same] at q; cases q
      · rw [upd_ne z1, upd_ne z2, upd_ne z3, upd_same] at q; cases q
  · have := W5.ex
    cases q : (upd (upd (upd (upd B h (.lst (ps.map V.int))) r (.lst (qs.map V.int))) l (.lst ts)) n (.ins C dx (nf h r l))) r with
    | some o => rw [← this _ _ q]; exact e3
    | none =>
      exfalso
      by_cases z1 : r = n
      · rw [z1, upd_same] at q; cases q
      by_cases z2 : r = l
      · rw [upd_ne z1, z2, upd_same] at q; cases q
      · rw [upd_ne z1, upd_ne z2, upd_same] at q; cases q
  · have := W5.ex
    cases q : (upd (upd (upd (upd B h (.lst (ps.map V.int))) r (.lst (qs.map V.int))) l (.lst ts)) n (.ins C dx (nf h r l))) l with
    | some o => rw [← this _ _ q]; exact e4
    | none =>
      exfalso
      by_cases z1 : l = n
      · rw [z1, upd_same] at q; cases q
      · rw [upd_ne z1, upd_same] at q; cases q
  · have nx : ∀ {p : Addr}, H3 p = none → x ≠ p := fun hp z => hk (by rw [z]; exact hp)
    rw [upd_ne (nx hn), upd_ne (nx l3), upd_ne (nx r3), upd_ne (nx h3)]
    exact hx
def rowD (r : Row) : PyData := .tuple [.int r.1, .int r.2.1, .int r.2.2]
theorem dp_rows {K : PySem.W.Frag} {B : Hp} : ∀ {ts : List V} {rs : List Row}, RowsAt B ts rs → DpAll K B ts (rs.map rowD)
  | _, _, .nil => .nil
  | _, _, .cons ⟨a, h1, h2⟩ t => .cons (by rw [h1]; exact .tup (SqT.of h2) (.cons (.int _) (.cons (.int _) (.cons (.int _) .nil)))) (dp_rows t)
theorem small_row {ps : List Int} {r : Row} (hP : Places ps) (h : RoadOk ps r) : Small (rowD r) 1 39 := by
  have b1 := hP.bd _ h.m1
  have b2 := hP.bd _ h.m2
  have c0 := h.c0
  have c1 := h.c1
  have k := small_tuple (k := 0) (L := 10) (ds := [.int r.1, .int r.2.1, .int r.2.2]) (fun d hd => by
    simp only [List.mem_cons, List.not_mem_nil, or_false] at hd
    rcases hd with rfl | rfl | rfl <;> exact small_int (by omega))
  exact k
theorem small_rows {ps : List Int} {rs : List Row} (hP : Places ps) (hR : Roads ps rs) : Small (.list (rs.map rowD)) 2 (12 * 41 + 3) := by
  have h := small_list (k := 1) (L := 39) (ds := rs.map rowD) (fun d hd => by
    obtain ⟨r, hr, rfl⟩ := List.mem_map.mp hd
    exact small_row hP (hR.ok r hr))
  refine h.mono (Nat.le_refl _) ?_
  rw [List.length_map]
  have := Nat.mul_le_mul_right 41 hR.len
  omega
def sp_law (K : PySem.W.Frag) : Sp := fun vs H Q _ => ∃ (a : Addr) (ns : List Int), vs = [.ref a] ∧ SqL K H a (ns.map V.int) ∧ ns.length ≤ 63 ∧ ∀ H', Q (.bl true) H'
theorem law_start (K : PySem.W.Frag) (H : Hp) (a : Addr) (ns : List Int) (hl : ns.length ≤ 63) (hS : SqL K H a (ns.map V.int)) : sp_law K [.ref a] H (fun v _ => v = .bl true) fun _ _ _ => False := ⟨a, ns, rfl, hS, hl, fun _ => rfl⟩
theorem rows_at {B : Hp} {ts : List V} {rs : List Row} {k : Nat} {r : Row} (h : RowsAt B ts rs) (hr : rs[k]? = some r) : ∃ a, ts[k]? = some (.ref a) ∧ B a = some (.tup (rowV r)) := by
  have hl := h.len
  have hk : k < ts.length := by
    have := (List.getElem?_eq_some_iff.mp hr).1
    omega
  obtain ⟨y, h1, a, h2, h3⟩ := paired_at h (List.getElem?_eq_getElem hk)
  rw [hr] at h1
  obtain rfl := Option.some.inj h1
  exact ⟨a, by rw [List.getElem?_eq_getElem hk, h2], h3⟩
end K19

set_option maxHeartbeats 2000000
namespace K19
open PySem PySem.Spec PyProof.Rows L2 Evl MyG
def sp_nhalls (C : Addr) : Sp := fun vs H Q _ => ∃ (n : Addr) (B : Hp) (ps qs : List Int) (rs : List Row), vs = [.ref n] ∧ Ex B H ∧ NetAt C B n ps qs rs ∧ ∀ p H', H p = none → H' = upd H p (.lst (qs.map V.int)) → Q (.ref p) H'
def sp_nlinks (C : Addr) : Sp := fun vs H Q _ => ∃ (n : Addr) (B : Hp) (ps qs : List Int) (rs : List Row), vs = [.ref n] ∧ Ex B H ∧ NetAt C B n ps qs rs ∧ ∀ p H' ts, H p = none → RowsAt B ts rs → H' = upd H p (.lst ts) → Q (.ref p) H'
def sp_nmost (C : Addr) : Sp := fun vs H Q _ => ∃ (n : Addr) (B : Hp) (ps qs : List Int) (rs : List Row), vs = [.ref n] ∧ Ex B H ∧ NetAt C B n ps qs rs ∧ rs.length ≤ 1000 ∧ ∀ H', Ex H H' → Q (.int (rs.map (·.2.2)).sum) H'
def sp_nlink (C : Addr) : Sp := fun vs H Q _ => ∃ (n : Addr) (B : Hp) (ps qs : List Int) (rs : List Row) (k : Nat) (r : Row), vs = [.ref n, .int (k : Int)] ∧ Ex B H ∧ NetAt C B n ps qs rs ∧ rs[k]? = some r ∧ rs.length ≤ 12 ∧ ∀ a H', Ex H H' → B a = some (.tup (rowV r)) → Q (.ref a) H'
def sp_ncost (C : Addr) : Sp := fun vs H Q _ => ∃ (n : Addr) (B : Hp) (ps qs : List Int) (rs : List Row) (k : Nat) (r : Row), vs = [.ref n, .int (k : Int)] ∧ Ex B H ∧ NetAt C B n ps qs rs ∧ rs[k]? = some r ∧ rs.length ≤ 12 ∧ ∀ H', Ex H H' → Q (.int r.2.2) H'
def sp_nbeyond (C : Addr) : Sp := fun vs H Q _ => ∃ (n : Addr) (B : Hp) (ps qs : List Int) (rs : List Row) (k : Nat) (r : Row) (h : Int), vs = [.ref n, .int (k : Int), .int h] ∧ Ex B H ∧ NetAt C B n ps qs rs ∧ rs[k]? = some r ∧ rs.length ≤ 12 ∧
  (h = r.1 ∨ h = r.2.1) ∧ ∀ H', Ex H H' → Q (.int (if h = r.1 then r.2.1 else r.1)) H'
def touch (rs : List Row) (h : Int) (k : Nat) : Bool := match rs[k]? with
  | some r => decide (r.1 = h) || decide (r.2.1 = h)
  | none => false
def doorsOf (rs : List Row) (h : Int) : List V := given rs.length (touch rs h) (fun k => .int (k : Nat))
def sp_ndoors (C : Addr) : Sp := fun vs H Q _ => ∃ (n : Addr) (B : Hp) (ps qs : List Int) (rs : List Row) (h : Int), vs = [.ref n, .int h] ∧ Ex B H ∧ NetAt C B n ps qs rs ∧ h ∈ qs ∧ rs.length ≤ 12 ∧ ∀ p H', H p = none → Ex H H' → H' p = some (.lst (doorsOf rs h)) → Q (.ref p) H'
section
variable {P : Program} {w : World} {K : PySem.W.Frag} {mg : Str → Option Value} {base : Heap}
theorem ok_nhalls (T : Tx K mg) : FnOk P w K mg base CX0 1 T.a_Net_halls T.d_Net_halls ["self"] (sp_nhalls T.c_Net) := by
  refine T.F_Net_halls.ok sc_Net_halls (fun vs H Q E h => ?_) (fun cdv A outer s H vs Q E hr h => ?_)
  · obtain ⟨_, _, _, _, _, rfl, _⟩ := h
    rfl
  · obtain ⟨n, B, ps, qs, rs, rfl, eB, hN, q⟩ := h
    refine ⟨_, (pss_one (ps_ret (pe_callTy (listK (K := K) rfl) (by rfl) T.z_list (by decide +kernel) (pa_cons (fldK (K := K) rfl (pv 0) rfl) pa_nil)))), ?_⟩
    obtain ⟨dx, h, r, l, ts, hn, hh, hr1, hl, hrs⟩ := hN.ex
    refine ⟨_, rfl, n, T.c_Net, dx, _, _, rfl, eB _ _ hn, T.cl_Net, T.n_Net__rising, nf_r _ _ _, r, _, rfl, .inl (SqL.of (eB _ _ hr1)), fun p hp => q p _ hp rfl⟩
theorem ok_nlinks (T : Tx K mg) : FnOk P w K mg base CX0 1 T.a_Net_links T.d_Net_links ["self"] (sp_nlinks T.c_Net) := by
  refine T.F_Net_links.ok sc_Net_links (fun vs H Q E h => ?_) (fun cdv A outer s H vs Q E hr h => ?_)
  · obtain ⟨_, _, _, _, _, rfl, _⟩ := h
    rfl
  · obtain ⟨n, B, ps, qs, rs, rfl, eB, hN, q⟩ := h
    refine ⟨_, (pss_one (ps_ret (pe_callTy (listK (K := K) rfl) (by rfl) T.z_list (by decide +kernel) (pa_cons (fldK (K := K) rfl (pv 0) rfl) pa_nil)))), ?_⟩
    obtain ⟨dx, h, r, l, ts, hn, hh, hr1, hl, hrs⟩ := hN.ex
    refine ⟨_, rfl, n, T.c_Net, dx, _, _, rfl, eB _ _ hn, T.cl_Net, T.n_Net__links, nf_l _ _ _, l, _, rfl, .inl (SqL.of (eB _ _ hl)), fun p hp => q p _ ts hp hrs rfl⟩
theorem ok_nmost (T : Tx K mg) : FnOk P w K mg base CX0 1 T.a_Net_most T.d_Net_most ["self"] (sp_nmost T.c_Net) := by
  refine T.F_Net_most.ok sc_Net_most (fun vs H Q E h => ?_) (fun cdv A outer s H vs Q E hr h => ?_)
  · obtain ⟨_, _, _, _, _, rfl, _⟩ := h
    rfl
  · obtain ⟨n, B, ps, qs, rs, rfl, eB, hN, h12, q⟩ := h
    refine ⟨_, (pss_one (ps_ret (pe_callB (sumK (K := K) rfl rfl) (by rfl) T.z_sum (by decide +kernel) (pa_cons (pe_lc (own := [("link", 1)]) (g := (gName 1)) (tt := tYes) rfl sc_Net_most.nd (iListK (K := K) rfl (fldK (K := K) rfl (pv 0) rfl)) (blkOk_by (N := n_Net_most) (sc := defScope s_Net_most) (by decide +kernel)) (fun _ _ _ _ _ => (pg_name (i := 1) sc_Net_most.nd rfl (Or.inl rfl))) (fun _ _ _ _ _ => pts_nil) (fun _ _ _ _ _ => (pe_ix (ix_tupK (K := K) rfl) (pv 1) pe_int (fun _ _ => rfl)))) pa_nil)))), ?_⟩
    obtain ⟨dx, h, r, l, ts, hn, hh, hr1, hl, hrs⟩ := hN.ex
    have hlen := hrs.len
    have h12 : rs.length ≤ 1000 := h12
    refine un_ret (un_cb (un_cons ?_))
    refine go_L (el_map (a := l) (xs := ts) (ys := (rs.map (·.2.2)).map V.int) (fun H1 e1 Q q => ⟨_, rfl, n, T.c_Net, dx, _, _, rfl, e1 _ _ (eB _ _ hn), T.cl_Net, T.n_Net__links, nf_l _ _ _, q _ (Ex.refl _)⟩) (SqL.of (eB _ _ hl)) (by omega) (by simp [hlen]) (fun _ => rfl) (fun i x y H1 e1 hx hy => ?_)) (fun p H1 hp e1 h1 => ?_)
    · obtain ⟨r0, hr0, a, rfl, ha⟩ := paired_at hrs hx
      rw [List.map_map, List.getElem?_map, hr0] at hy
      obtain rfl := Option.some.inj hy
      exact fun H2 e2 Q q => ⟨_, rfl, a, _, 2, _, rfl, rfl, SqT.of (e2 _ _ (e1 _ _ (eB _ _ ha))), atI_nat (j := 2) rfl, q _ (Ex.refl _)⟩
    · exact ⟨p, _, rfl, SqL.of h1, q H1 e1⟩
theorem ok_nlink (T : Tx K mg) : FnOk P w K mg base CX0 2 T.a_Net__link T.d_Net__link ["self", "link"] (sp_nlink T.c_Net) := by
  have G_is_number := ok_isnum (P := P) (w := w) (base := base) T
  refine T.F_Net__link.ok sc_Net__link (fun vs H Q E h => ?_) (fun cdv A outer s H vs Q E hr h => ?_)
  · obtain ⟨_, _, _, _, _, _, _, rfl, _⟩ := h
    rfl
  · obtain ⟨n, B, ps, qs, rs, k, r, rfl, eB, hN, hk, h12, q⟩ := h
    refine ⟨_, (pss_cons (ps_if (PW.pt (pw_or (pt_not (pt_val (pe_call G_is_number (hr.mono (by decide)) (by rfl) T.g_is_number T.F_is_number.kp T.b_is_number .nil pass0 (pa_cons (pv 1) pa_nil)))) (pw_or1 (pt_not (pt_chain op_le op_lt pe_int (pv 1) (pe_callB (lenK (K := K) rfl) (by rfl) T.z_len (by decide +kernel) (pa_cons (fldK (K := K) rfl (pv 0) rfl) pa_nil))))))) (pss_one ps_never) pss_nil)
  (pss_one (ps_ret (pe_ix (ix_listK (K := K) rfl) (fldK (K := K) rfl (pv 0) rfl) (pv 1) (fun _ _ => rfl))))), ?_⟩
    obtain ⟨dx, h, r', l, ts, hn, hh, hr1, hl, hrs⟩ := hN.ex
    have hlen := hrs.len
    have hk1 := (List.getElem?_eq_some_iff.mp hk).1
    obtain ⟨a, ha1, ha2⟩ := rows_at hrs hk
    -- not is_number(link) or not 0 <= link < len(self._links)
    refine ⟨_, rfl, _, "int", rfl, .int _, _, rfl, ?_⟩
    refine iteF ⟨_, rfl, 0, k, rfl, rfl, _, rfl, ?_⟩
    rw [decide_eq_true (show (0 : Int) ≤ (k : Int) by omega)]
    refine iteT ⟨_, rfl, n, T.c_Net, dx, _, _, rfl, eB _ _ hn, T.cl_Net, T.n_Net__links, nf_l _ _ _, l, _, rfl, .inl (SqL.of (eB _ _ hl)), k, _, rfl, rfl, _, rfl, ?_⟩
    rw [decide_eq_true (show (k : Int) < (ts.length : Int) by omega)]
    refine iteF ?_
    refine ⟨_, rfl, n, T.c_Net, dx, _, _, rfl, eB _ _ hn, T.cl_Net, T.n_Net__links, nf_l _ _ _, _, rfl, l, _, k, _, rfl, rfl, SqL.of (eB _ _ hl), atI_nat ha1, q a _ (Ex.refl _) ha2⟩
theorem ok_ncost (T : Tx K mg) : FnOk P w K mg base CX0 3 T.a_Net_cost T.d_Net_cost ["self", "link"] (sp_ncost T.c_Net) := by
  have G_Net__link := ok_nlink (P := P) (w := w) (base := base) T
  refine T.F_Net_cost.ok sc_Net_cost (fun vs H Q E h => ?_) (fun cdv A outer s H vs Q E hr h => ?_)
  · obtain ⟨_, _, _, _, _, _, _, rfl, _⟩ := h
    rfl
  · obtain ⟨n, B, ps, qs, rs, k, r, rfl, eB, hN, hk, h12, q⟩ := h
    refine ⟨_, (pss_one (ps_ret (pe_ix (ix_tupK (K := K) rfl) (pe_meth (pv 0) T.cl_Net T.me_Net__link G_Net__link (hr.mono (by decide)) T.b_Net__link .nil pass0 (pa_cons (pv 1) pa_nil)) pe_int (fun _ _ => rfl)))), ?_⟩
    obtain ⟨dx, h, r', l, ts, hn, hh, hr1, hl, hrs⟩ := id hN.ex
    refine ⟨_, rfl, n, dx, _, rfl, eB _ _ hn, nf_no _ _ _ (by decide +kernel) (by decide +kernel) (by decide +kernel), _, rfl, n, B, ps, qs, rs, k, r, rfl, eB, hN, hk, h12, fun a H' e ha => ?_⟩
    exact ⟨a, _, 2, _, rfl, rfl, SqT.of (e _ _ (eB _ _ ha)), atI_nat (j := 2) rfl, q H' e⟩
theorem ok_nbeyond (T : Tx K mg) : FnOk P w K mg base CX0 3 T.a_Net_beyond T.d_Net_beyond ["self", "link", "hall"] (sp_nbeyond T.c_Net) := by
  have G_Net__link := ok_nlink (P := P) (w := w) (base := base) T
  have G_is_number := ok_isnum (P := P) (w := w) (base := base) T
  refine T.F_Net_beyond.ok sc_Net_beyond (fun vs H Q E h => ?_) (fun cdv A outer s H vs Q E hr h => ?_)
  · obtain ⟨_, _, _, _, _, _, _, _, rfl, _⟩ := h
    rfl
  · obtain ⟨n, B, ps, qs, rs, k, r, h, rfl, eB, hN, hk, h12, hor, q⟩ := h
    refine ⟨_, (pss_cons (ps_asg (pe_meth (pv 0) T.cl_Net T.me_Net__link G_Net__link (hr.mono (by decide)) T.b_Net__link .nil pass0 (pa_cons (pv 1) pa_nil)) (pg_tup rfl (pgs_cons (pg_name (i := 3) sc_Net_beyond.nd rfl (Or.inl rfl)) (pgs_cons (pg_name (i := 4) sc_Net_beyond.nd rfl (Or.inl rfl)) (pgs_cons (pg_name (i := 5) sc_Net_beyond.nd rfl (Or.inl rfl)) pgs_nil)))))
  (pss_cons (ps_if (PW.pt (pw_or (pt_not (pt_val (pe_call G_is_number (hr.mono (by decide)) (by rfl) T.g_is_number T.F_is_number.kp T.b_is_number .nil pass0 (pa_cons (pv 2) pa_nil)))) (pw_or1 (pt_cmpR (op_niK (K := K) rfl) (pv 2) (pe_tup (pa_cons (pv 3) (pa_cons (pv 4) pa_nil))) (by rfl))))) (pss_one ps_never) pss_nil)
  (pss_one (ps_ret (pe_ifExp (pt_cmpR op_eq (pv 2) (pv 3) (nomark _)) (pv 4) (pv 3)))))), ?_⟩
    obtain ⟨dx, hx, r', l, ts, hn, hh, hr1, hl, hrs⟩ := id hN.ex
    refine ⟨_, rfl, n, dx, _, rfl, eB _ _ hn, nf_no _ _ _ (by decide +kernel) (by decide +kernel) (by decide +kernel), _, rfl, n, B, ps, qs, rs, k, r, rfl, eB, hN, hk, h12, fun a H1 e ha => ?_⟩
    refine ⟨a, _, rfl, SqT.of (e _ _ (eB _ _ ha)), rfl, _, _, rfl, _, _, rfl, _, _, rfl, rfl, ?_⟩
    -- not is_number(hall) or hall not in (one, other)
    refine ⟨_, rfl, _, "int", rfl, .int _, _, rfl, ?_⟩
    refine iteF ⟨_, rfl, _, rfl, _, rfl, by show 2 ≤ sizeLine; decide, fun p hp => ⟨p, _, rfl, .inr (SqT.of upd_same), rfl, rfl, _, rfl, ?_⟩⟩
    have ein : inV (.int h) [.int r.1, .int r.2.1] = true := by
      rw [show ([V.int r.1, .int r.2.1] : List V) = [r.1, r.2.1].map V.int from rfl, inV_ints]
      refine decide_eq_true ?_
      rcases hor with z | z <;> simp [z]
    rw [ein]
    refine iteF ?_
    have z := q _ (e.trans (Ex.new (o := .tup [.int r.1, .int r.2.1]) hp))
    refine ⟨_, rfl, _, rfl, rfl, _, rfl, ?_⟩
    have ed : decide (V.int h = V.int r.1) = decide (h = r.1) := decide_eq_decide.mpr ⟨fun e => V.int.inj e, fun e => by rw [e]⟩
    rw [ed]
    by_cases c : h = r.1
    · rw [decide_eq_true c]
      rw [if_pos c] at z
      exact iteT ⟨_, rfl, z⟩
    · rw [decide_eq_false c]
      rw [if_neg c] at z
      exact iteF ⟨_, rfl, z⟩
end
end K19

set_option maxHeartbeats 2000000
namespace K19
open PySem PySem.Spec PyProof.Rows L2 Evl MyG
/-! ### regions of the heap that change -/
/-- M became M' while the heap became H', and nothing else changed -/
structure Chg (M M' H H' : Hp) : Prop where
  now : Ex M' H'
  frame : ∀ a o, M a = none → H a = some o → H' a = some o
  fresh : ∀ a, M' a ≠ none → M a ≠ none ∨ H a = none
/-- what no region has in common -/
def Dj (M N : Hp) : Prop := ∀ a, M a = none ∨ N a = none
theorem Dj.symm {M N : Hp} (h : Dj M N) : Dj N M := fun a => (h a).symm
theorem Chg.keep {M M' H H' N : Hp} (c : Chg M M' H H') (d : Dj N M) (e : Ex N H) : Ex N H' ∧ Dj N M' := by
  refine ⟨fun a o ha => ?_, fun a => ?_⟩
  · rcases d a with z | z
    · rw [z] at ha; cases ha
    · exact c.frame a o z (e a o ha)
  · cases hn : N a with
    | none => exact .inl rfl
    | some o =>
      right
      cases hm : M' a with
      | none => rfl
      | some o' =>
        exfalso
        rcases d a with z | z
        · rw [z] at hn; cases hn
        · rcases c.fresh a (by rw [hm]; exact fun q => by cases q) with k | k
          · exact k z
          · have := e a o hn
            rw [k] at this
            cases this
theorem Chg.id {M H : Hp} (e : Ex M H) : Chg M M H H := ⟨e, fun _ _ _ h => h, fun _ h => .inl h⟩
theorem Chg.ext {M H H' : Hp} (e : Ex M H) (h : Ex H H') : Chg M M H H' := ⟨e.trans h, fun a o _ z => h a o z, fun _ h => .inl h⟩
theorem Chg.trans {M1 M2 M3 H1 H2 H3 : Hp} (a : Chg M1 M2 H1 H2) (b : Chg M2 M3 H2 H3) : Chg M1 M3 H1 H3 := by
  refine ⟨b.now, fun x o hm hx => ?_, fun x hx => ?_⟩
  · have h2 := a.frame x o hm hx
    refine b.frame x o ?_ h2
    cases q : M2 x with
    | none => rfl
    | some o' =>
      exfalso
      rcases a.fresh x (by rw [q]; exact fun z => by cases z) with k | k
      · exact k hm
      · rw [k] at hx; cases hx
  · rcases b.fresh x hx with k | k
    · exact a.fresh x k
    · cases h1 : H1 x with
      | none => exact .inr rfl
      | some o =>
        left
        intro hm
        have := a.frame x o hm h1
        rw [k] at this
        cases this
theorem Chg.put {M H : Hp} {r : Addr} {o0 o : HO} (e : Ex M H) (hr : M r = some o0) : Chg M (upd M r o) H (upd H r o) := by
  refine ⟨fun a u ha => ?_, fun a u hm ha => ?_, fun a ha => ?_⟩
  · by_cases z : a = r
    · rw [z, upd_same] at ha ⊢
      exact ha
    · rw [upd_ne z] at ha ⊢
      exact e a u ha
  · rw [upd_ne fun z => by rw [z, hr] at hm; cases hm]
    exact ha
  · by_cases z : a = r
    · left
      rw [z, hr]
      exact fun q => by cases q
    · rw [upd_ne z] at ha
      exact .inl ha
/-- a new object joins the region -/
theorem Chg.new {M H : Hp} {r : Addr} {o : HO} (e : Ex M H) (hr : H r = none) : Chg M (upd M r o) H (upd H r o) := by
  refine ⟨fun a u ha => ?_, fun a u hm ha => ?_, fun a ha => ?_⟩
  · by_cases z : a = r
    · rw [z, upd_same] at ha ⊢
      exact ha
    · rw [upd_ne z] at ha ⊢
      exact e a u ha
  · rw [upd_ne fun z => by rw [z, hr] at ha; cases ha]
    exact ha
  · by_cases z : a = r
    · exact .inr (by rw [z]; exact hr)
    · rw [upd_ne z] at ha
      exact .inl ha
/-! ### the ends of a link -/
def lo (r : Row) : Int := if r.1 ≤ r.2.1 then r.1 else r.2.1
def hi (r : Row) : Int := if r.1 ≤ r.2.1 then r.2.1 else r.1
theorem two_sorted {a b : Int} {xs : List Int} (pm : xs.Perm [a, b]) (so : xs.Pairwise (· ≤ ·)) : xs = [if a ≤ b then a else b, if a ≤ b then b else a] := by
  have hl := pm.length_eq
  match xs, hl with
  | [x, y], _ =>
    rw [List.pairwise_cons] at so
    have xy := so.1 y (by simp)
    have hx : x = a ∨ x = b := by simpa using pm.mem_iff.mp (show x ∈ [x, y] by simp)
    have hy : y = a ∨ y = b := by simpa using pm.mem_iff.mp (show y ∈ [x, y] by simp)
    have ha : a = x ∨ a = y := by simpa using pm.mem_iff.mpr (show a ∈ [a, b] by simp)
    have hb : b = x ∨ b = y := by simpa using pm.mem_iff.mpr (show b ∈ [a, b] by simp)
    by_cases c : a ≤ b
    · rw [if_pos c, if_pos c]
      congr 1
      · omega
      · congr 1
        omega
    · rw [if_neg c, if_neg c]
      congr 1
      · omega
      · congr 1
        omega
def sp_nends (C : Addr) : Sp := fun vs H Q _ => ∃ (n : Addr) (B : Hp) (ps qs : List Int) (rs : List Row) (k : Nat) (r : Row), vs = [.ref n, .int (k : Int)] ∧ Ex B H ∧ NetAt C B n ps qs rs ∧ rs[k]? = some r ∧ rs.length ≤ 12 ∧
  ∀ p H', H p = none → Ex H H' → H' p = some (.lst [.int (lo r), .int (hi r)]) → Q (.ref p) H'
section
variable {P : Program} {w : World} {K : PySem.W.Frag} {mg : Str → Option Value} {base : Heap}
theorem ok_nends (T : Tx K mg) : FnOk P w K mg base CX0 3 T.a_Net_ends T.d_Net_ends ["self", "link"] (sp_nends T.c_Net) := by
  have G_Net__link := ok_nlink (P := P) (w := w) (base := base) T
  refine T.F_Net_ends.ok sc_Net_ends (fun vs H Q E h => ?_) (fun cdv A outer s H vs Q E hr h => ?_)
  · obtain ⟨_, _, _, _, _, _, _, rfl, _⟩ := h
    rfl
  · obtain ⟨n, B, ps, qs, rs, k, r, rfl, eB, hN, hk, h12, q⟩ := h
    refine ⟨_, (pss_cons (ps_asg (pe_meth (pv 0) T.cl_Net T.me_Net__link G_Net__link (hr.mono (by decide)) T.b_Net__link .nil pass0 (pa_cons (pv 1) pa_nil)) (pg_tup rfl (pgs_cons (pg_name (i := 2) sc_Net_ends.nd rfl (Or.inl rfl)) (pgs_cons (pg_name (i := 3) sc_Net_ends.nd rfl (Or.inl rfl)) (pgs_cons (pg_name (i := 4) sc_Net_ends.nd rfl (Or.inl rfl)) pgs_nil)))))
  (pss_one (ps_ret (pe_callB (sortedK (K := K) rfl) (by rfl) T.z_sorted (by decide +kernel) (pa_cons (pe_lst (pa_cons (pv 2) (pa_cons (pv 3) pa_nil))) pa_nil))))), ?_⟩
    obtain ⟨dx, hx, r', l, ts, hn, hh, hr1, hl, hrs⟩ := id hN.ex
    refine ⟨_, rfl, n, dx, _, rfl, eB _ _ hn, nf_no _ _ _ (by decide +kernel) (by decide +kernel) (by decide +kernel), _, rfl, n, B, ps, qs, rs, k, r, rfl, eB, hN, hk, h12, fun a H1 e ha => ?_⟩
    refine ⟨a, _, rfl, SqT.of (e _ _ (eB _ _ ha)), rfl, _, _, rfl, _, _, rfl, _, _, rfl, rfl, ?_⟩
    refine ⟨_, rfl, _, rfl, by show 2 ≤ sizeLine; decide, fun p hp => ⟨p, [r.1, r.2.1], rfl, SqL.of upd_same, by show 2 < 64; decide, fun ns u pm so hu => ?_⟩⟩
    obtain rfl := two_sorted pm so
    exact q u _ (fresh_back (e.trans (Ex.new (o := .lst [.int r.1, .int r.2.1]) hp)) hu) ((e.trans (Ex.new hp)).trans (Ex.new hu)) upd_same
end
/-! ### a post -/
def pf (n d : Addr) : List (Str × V) := putF "_rows" (.ref d) (putF "_net" (.ref n) [])
theorem pn_ : ¬ (("_net" : Str) = "_rows") := by decide +kernel
theorem pf_n (n d : Addr) : (pf n d).lookup ("_net" : Str) = some (.ref n) := by
  unfold pf
  rw [lookup_putF, if_neg pn_, lookup_putF, if_pos rfl]
theorem pf_d (n d : Addr) : (pf n d).lookup ("_rows" : Str) = some (.ref d) := by
  unfold pf
  rw [lookup_putF, if_pos rfl]
theorem pf_no (n d : Addr) {m : Str} (h1 : ¬ m = "_rows") (h2 : ¬ m = "_net") : (pf n d).lookup m = none := by
  unfold pf
  rw [lookup_putF, if_neg h1, lookup_putF, if_neg h2]
  rfl
abbrev Door := Int × Int
def keyD (d : Door) : List Key := [.inl d.1, .inl d.2]
def doorV (d : Door) : List V := [.int d.1, .int d.2]
theorem keyD_V (d : Door) : (keyD d).map kV = doorV d := rfl
theorem keyD_inj {a b : Door} (h : keyD a = keyD b) : a = b := by
  simp only [keyD, List.cons.injEq, Sum.inl.injEq, and_true] at h
  exact Prod.ext h.1 h.2
/-- all doors of a net, rising -/
def doorsFrom : Nat → List Row → List Door
  | _, [] => []
  | k, r :: rs => ((k : Int), lo r) :: ((k : Int), hi r) :: doorsFrom (k + 1) rs
def kvsOf (ds : List Door) (rs : List Addr) : List (List Key × V) := List.zipWith (fun d r => (keyD d, V.ref r)) ds rs
def LtsAt (S A : Addr) (B : Hp) : List V → List Lt → Prop := Paired fun (x : V) (l : Lt) => ∃ a, x = .ref a ∧ LtAt S A B a l
def LanesAt (S A : Addr) (B M : Hp) : List Addr → List (List Lt) → Prop := Paired fun (r : Addr) (l : List Lt) => ∃ xs, M r = some (.lst xs) ∧ LtsAt S A B xs l
structure PostAt (C S A : Addr) (B M : Hp) (p n : Addr) (ds : List Door) (ls : List (List Lt)) : Prop where
  ex : ∃ dx d rs, M p = some (.ins C dx (pf n d)) ∧ M d = some (.dT (kvsOf ds rs)) ∧ rs.Nodup ∧ rs.length = ds.length ∧ LanesAt S A B M rs ls
  nd : ds.Nodup
theorem valV_kvs : ∀ {ds : List Door} {rs : List Addr} {i : Nat} {d : Door} {r : Addr}, ds.Nodup → ds[i]? = some d → rs[i]? = some r → valV (kvsOf ds rs) (keyD d) = some (.ref r)
  | [], _, _, _, _, _, h, _ => by simp at h
  | _ :: _, [], _, _, _, _, _, h => by simp at h
  | d0 :: ds, r0 :: rs, 0, d, r, nd, h1, h2 => by
    simp only [List.getElem?_cons_zero, Option.some.injEq] at h1 h2
    subst h1 h2
    exact valV_pos rfl
  | d0 :: ds, r0 :: rs, i + 1, d, r, nd, h1, h2 => by
    simp only [List.getElem?_cons_succ] at h1 h2
    rw [List.nodup_cons] at nd
    have ne : ¬ keyD d0 = keyD d := fun e => nd.1 (by rw [keyD_inj e]; exact List.mem_of_getElem? h1)
    show valV ((keyD d0, V.ref r0) :: kvsOf ds rs) (keyD d) = _
    rw [valV_neg ne]
    exact valV_kvs nd.2 h1 h2
/-- the row of a door stands at r -/
def RowAt (C : Addr) (M : Hp) (p n : Addr) (d : Door) (r : Addr) : Prop := ∃ dx e kvs, M p = some (.ins C dx (pf n e)) ∧ M e = some (.dT kvs) ∧ valV kvs (keyD d) = some (.ref r)
theorem lanes_set {S A : Addr} {B M : Hp} {r : Addr} {xs : List V} {l : List Lt} (h : LtsAt S A B xs l) : ∀ {rs : List Addr} {ls : List (List Lt)} {i : Nat}, rs.Nodup → rs[i]? = some r → LanesAt S A B M rs ls → LanesAt S A B (upd M r (.lst xs)) rs (ls.set i l)
  | [], _, _, _, e, _ => by simp at e
  | r0 :: rs, _, 0, nd, e, .cons a t => by
    simp only [List.getElem?_cons_zero, Option.some.injEq] at e
    subst e
    rw [List.nodup_cons] at nd
    refine .cons ⟨xs, upd_same, h⟩ ?_
    have keep : ∀ {rs' : List Addr} {ls' : List (List Lt)}, ¬ r0 ∈ rs' → LanesAt S A B M rs' ls' → LanesAt S A B (upd M r0 (.lst xs)) rs' ls' := by
      intro rs' ls' hn h
      unfold LanesAt at h
      induction h with
      | nil => exact .nil
      | @cons a b as bs q t ih =>
        obtain ⟨ys, h1, h2⟩ := q
        refine .cons ⟨ys, ?_, h2⟩ (ih fun z => hn (List.mem_cons_of_mem _ z))
        rw [upd_ne fun z => hn (by rw [z]; exact List.mem_cons_self ..)]
        exact h1
    exact keep nd.1 t
  | r0 :: rs, _, i + 1, nd, e, .cons a t => by
    simp only [List.getElem?_cons_succ] at e
    rw [List.nodup_cons] at nd
    obtain ⟨ys, h1, h2⟩ := a
    refine .cons ⟨ys, ?_, h2⟩ (lanes_set h nd.2 e t)
    rw [upd_ne fun z => nd.1 (by rw [z]; exact List.mem_of_getElem? e)]
    exact h1
theorem PostAt.row {C S A : Addr} {B M : Hp} {p n : Addr} {ds : List Door} {ls : List (List Lt)} {i : Nat} {d : Door} {l : List Lt} (h : PostAt C S A B M p n ds ls) (hd : ds[i]? = some d) (hl : ls[i]? = some l) :
    ∃ r xs, RowAt C M p n d r ∧ M r = some (.lst xs) ∧ LtsAt S A B xs l ∧ ∀ xs' l', LtsAt S A B xs' l' → PostAt C S A B (upd M r (.lst xs')) p n ds (ls.set i l') := by
  obtain ⟨dx, e, rs, h1, h2, h3, h4, h5⟩ := h.ex
  have hi : i < rs.length := by
    have := (List.getElem?_eq_some_iff.mp hd).1
    omega
  have hr := List.getElem?_eq_getElem hi
  obtain ⟨l', hl', xs, hx, hxs⟩ := paired_at h5 hr
  rw [hl] at hl'
  obtain rfl := Option.some.inj hl'
  refine ⟨rs[i], xs, ⟨dx, e, _, h1, h2, valV_kvs h.nd hd hr⟩, hx, hxs, fun xs' l' h' => ⟨⟨dx, e, rs, ?_, ?_, h3, h4, lanes_set h' h3 hr h5⟩, h.nd⟩⟩
  · rw [upd_ne (ne_of h1 hx (by intro z; cases z))]; exact h1
  · rw [upd_ne (ne_of h2 hx (by intro z; cases z))]; exact h2
theorem RowAt.uniq {C : Addr} {M : Hp} {p n : Addr} {d : Door} {r r' : Addr} (a : RowAt C M p n d r) (b : RowAt C M p n d r') : r = r' := by
  obtain ⟨dx, e, kvs, a1, a2, a3⟩ := a
  obtain ⟨dx', e', kvs', b1, b2, b3⟩ := b
  rw [a1] at b1
  have z := HO.ins.inj (Option.some.inj b1)
  have ee : (pf n e).lookup ("_rows" : Str) = (pf n e').lookup ("_rows" : Str) := by rw [z.2.2]
  rw [pf_d, pf_d] at ee
  obtain rfl := V.ref.inj (Option.some.inj ee)
  rw [a2] at b2
  obtain rfl := HO.dT.inj (Option.some.inj b2)
  rw [a3] at b3
  exact V.ref.inj (Option.some.inj b3)
end K19

set_option maxHeartbeats 2000000
/-! Texts: a text times a number, join with the written part named, f(k = v); words of rows, rows of texts. -/
namespace MyG
open PySem PySem.Spec PyProof.Rows L2 Evl
section
variable {X : Cx}
/-- a text times an int -/
def rMulS : R2 := fun x y H Q => ∃ a k, x = .str a ∧ y = .int k ∧ MulOk a k ∧ Q (.str (Txt.mul a k)) H
theorem op_mulS : OpR X (binaryOp .Mult) rMulS := by
  intro pins s σ H x y v u Q I rx ry h
  obtain ⟨a, k, rfl, rfl, hok, q⟩ := h
  obtain ⟨t, rfl⟩ := rx
  obtain ⟨t2, rfl⟩ := ry
  exact SB.mul hok fun t' k' => ⟨.str _, H, I.tok _, ⟨_, rfl⟩, q⟩
def rJoinK (K : PySem.W.Frag) : V → List V → Hp → VK → Prop := fun x xs H Q => ∃ a p, ∃ ys : List Str, x = .str a ∧ xs = [.ref p] ∧ (SqL K H p (ys.map V.str) ∨ SqT K H p (ys.map V.str)) ∧
      (ys.map (·.length)).sum + ys.length * a.length ≤ 16777216 ∧ Q (.str (Txt.join a ys)) H
theorem joinK {K : PySem.W.Frag} {o e : Expr} {to te : TE} {apos pos : Pos} (h : X.K = K) (ho : PE X o to) (he : PE X e te) (hs : starEach [e] X.env = [(false, eval e X.env)] := by rfl) (hbase : attributeBase o "join" X.env (eval o X.env) = eval o X.env := by rfl) (hline : (apos.endLine == pos.line) = true := by rfl) :
    PE X (.Call (.Attribute o "join" apos) [e] [] pos) (tM1 (rJoinK K) to te) := by
  subst h
  exact pe_join ho he hs hbase hline
end
section
variable {X : Cx} {CX : CXT} {k : Nat} {f : Addr} {fd : FuncData} {ps ks : List Str} {sp : Sp} {E : XK} {x : Str} {p pos : Pos} {tk : TA} {kws : List Keyword} {g : List Value → List Value → List Value} {gV : List V → List V → List V}
/-- f(k = v, ..): keywords alone -/
def tCallK0 (n : Nat) (sp : Sp) (gV : List V → List V → List V) (E : XK) (tk : TA) : TE := fun σ H Q => tk σ H fun zs H2 => zs.length = n ∧ sp (gV [] zs) H2 Q E
theorem pe_callK0 (F : FnOk X.prog X.w X.K X.mg X.base CX k f fd ps sp) (room : Room k X.A) (hg : Gl X x) (hm : X.mg x = some (.ref f)) (hk : PySem.W.keepIn X.K (.ref f) = true) (hb : KBn X.K fd ps 0 ks g gV) (hx : Passes CX X E) (hkw : PK X kws tk)
    (hall : (backToKw pos (keywordEach kws X.env)).all (·.1.isSome) = true := by rfl) (hks : (backToKw pos (keywordEach kws X.env)).filterMap (·.1) = ks := by rfl) (hdb : (x == ("__debug__" : Str)) = false := by decide)
    (hpl : ((backTo pos (starEach [] X.env)).any (·.1) || (backToKw pos (keywordEach kws X.env)).any (·.1.isNone)) = false := by rfl) :
    PE X (.Call (.Name x p) [] kws pos) (tCallK0 ks.length sp gV E tk) := by
  constructor
  intro pins s σ H Q I h
  refine wpAny_Call_Name_kw (ld_glob I hg hm (PySem.W.callWith_KW0 (h₀ := X.base) I.ok.mod.kin hk hall (thn (hkw.run pos pins s σ H _ I h) ?_) hpl) hdb)
  rintro ws s2 ⟨zs, H2, I2, rz, l2, hs⟩
  refine ⟨I2.kIn, ?_⟩
  rw [hks]
  exact run_fnN (us := []) (vs := []) F room hb hx I2 .nil rz rfl l2 hs
end
/-! ### words of a row -/
open TL
def wordsL (l : List Nat) : List (List Nat) := (spl [32] 0 [] l).filter (fun w => !w.isEmpty)
theorem pre32 (c : Nat) (r : List Nat) : pre [32] (c :: r) = (c == 32) := by
  unfold pre
  simp only [List.length_singleton, List.take_succ_cons, List.take_zero]
  by_cases h : c = 32
  · subst h; rfl
  · have e : (c == 32) = false := by simpa using h
    rw [e]
    simp [h]
theorem wordsL_blank (l : List Nat) : wordsL (32 :: l) = wordsL l := by
  unfold wordsL
  rw [spl_hit (by rw [pre32]; rfl)]
  rfl
theorem wordsL_blanks : ∀ (k : Nat) (l : List Nat), wordsL (List.replicate k 32 ++ l) = wordsL l
  | 0, l => rfl
  | k + 1, l => by
    rw [List.replicate_succ, List.cons_append, wordsL_blank, wordsL_blanks k l]
theorem wordsL_word {w l : List Nat} (h : 32 ∉ w) (hne : w ≠ []) : wordsL (w ++ 32 :: l) = w :: wordsL l := by
  unfold wordsL
  rw [show w ++ 32 :: l = w ++ ([32] ++ l) from rfl, spl_part1 (s := 32) (S := []) h, List.nil_append, List.filter_cons, if_pos (by cases w; exact absurd rfl hne; rfl)]
theorem wordsL_one {w : List Nat} (h : 32 ∉ w) (hne : w ≠ []) : wordsL w = [w] := by
  unfold wordsL
  rw [spl_last1 (s := 32) (S := []) h, List.nil_append, List.filter_cons, if_pos (by cases w; exact absurd rfl hne; rfl)]
  rfl
theorem wordsL_nil : wordsL [] = [] := rfl
theorem spl_snoc : ∀ (l acc : List Nat), spl [32] 0 acc (l ++ [32]) = spl [32] 0 acc l ++ [[]]
  | [], acc => by
    rw [List.nil_append, spl_hit (by rw [pre32]; rfl), spl_nil, spl_nil]
    rfl
  | c :: r, acc => by
    by_cases h : c = 32
    · subst h
      rw [List.cons_append, spl_hit (by rw [pre32]; rfl), spl_hit (by rw [pre32]; rfl)]
      show acc :: spl [32] 0 [] (r ++ [32]) = acc :: spl [32] 0 [] r ++ [[]]
      rw [spl_snoc r []]
      rfl
    · have e : pre [32] (c :: r) = false := by rw [pre32]; simpa using h
      have e' : pre [32] (c :: (r ++ [32])) = false := by rw [pre32]; simpa using h
      rw [List.cons_append, spl_miss e', spl_miss e, spl_snoc r (acc ++ [c])]
theorem wordsL_end (l : List Nat) : wordsL (l ++ [32]) = wordsL l := by
  unfold wordsL
  rw [spl_snoc, List.filter_append]
  simp
theorem wordsL_ends : ∀ (k : Nat) (l : List Nat), wordsL (l ++ List.replicate k 32) = wordsL l
  | 0, l => by rw [List.replicate_zero, List.append_nil]
  | k + 1, l => by
    rw [List.replicate_succ', ← List.append_assoc, wordsL_end, wordsL_ends k l]
theorem wordsL_join : ∀ {ws : List (List Nat)}, (∀ w ∈ ws, 32 ∉ w ∧ w ≠ []) → wordsL (joinL [32] ws) = ws
  | [], _ => rfl
  | [w], h => by
    have k := h w (List.mem_singleton.mpr rfl)
    exact wordsL_one k.1 k.2
  | w :: v :: r, h => by
    have k := h w (List.mem_cons_self ..)
    show wordsL (w ++ (32 :: joinL [32] (v :: r))) = _
    rw [wordsL_word k.1 k.2, wordsL_join fun z hz => h z (List.mem_cons_of_mem _ hz)]
/-- rstrip(" ") takes blanks away, nothing else -/
theorem rstrip_blanks (x y : Str) (hy : tl y = [32]) : ∃ k, tl x = tl (Txt.rstripChars x y) ++ List.replicate k 32 := by
  have hy' : y = ⟨#[32]⟩ := ext_tl (by rw [hy])
  subst hy'
  unfold Txt.rstripChars
  rw [stripBy_eq]
  have f := hi_facts (Array.contains #[32]) x 0 (Nat.zero_le _)
  have lo0 : stripLo (Array.contains #[32]) false x = 0 := rfl
  rw [lo0]
  obtain ⟨_, h2, h3, _⟩ := f
  generalize stripHi (Array.contains #[32]) true x 0 = j at h2 h3
  refine ⟨x.length - j, ?_⟩
  have e : tl (Builtin.Str.strSub x 0 j) = (tl x).take j := by
    show (Builtin.Str.strSub x 0 j).cps.toList = _
    rw [PySem.StrLaws.strSub_toList, List.drop_zero, Nat.sub_zero]
  rw [e]
  have hx : x.length = (tl x).length := len_tl x
  refine (List.take_append_drop j (tl x)).symm.trans (congrArg _ ?_)
  refine List.ext_getElem (by rw [List.length_drop, List.length_replicate]; omega) (fun i h1 h4 => ?_)
  rw [List.getElem_drop, List.getElem_replicate]
  rw [List.length_drop] at h1
  have k := h3 (j + i) (by omega) (by omega)
  have g : x.cps.getD (j + i) 0 = (tl x)[j + i]'(by omega) := by
    rw [← getD_list, List.getD_eq_getElem?_getD, List.getElem?_eq_getElem (by show j + i < (tl x).length; omega)]
    rfl
  rw [g] at k
  simpa using k
/-! ### numbers as figures -/
theorem numL_head {n : Nat} (h : n ≠ 0) : ∃ c r, numL n = c :: r ∧ c ≠ 48 := by
  induction n using Nat.strongRecOn with
  | _ n ih =>
    by_cases h10 : n < 10
    · exact ⟨48 + n, [], numL_lt h10, by omega⟩
    · obtain ⟨c, r, e, hc⟩ := ih (n / 10) (by omega) (by omega)
      exact ⟨c, r ++ [48 + n % 10], by rw [numL_step (by omega), e]; rfl, hc⟩
end MyG
namespace MyG
open PySem PySem.Spec PyProof.Rows L2 Evl
section
variable {X : Cx} {K : PySem.W.Frag}
def tTruth (K : PySem.W.Frag) (ta : TE) : TT := fun σ H Q => ta σ H fun x H' => ∃ k, TruV K x H' k ∧ Q k H'
theorem truthK {a : Expr} {ta : TE} (h : X.K = K) (ha : PE X a ta) (he : ∀ whole, isTrue a X.env whole = (do let v ← whole; standAt a.pos; holding [v] (truthy v))) : PT X a (tTruth K ta) := by
  subst h
  exact pt_truth ha he
def rTupOfK (K : PySem.W.Frag) : List V → Hp → VK → Prop := fun xs H Q => ∃ p ys, xs = [.ref p] ∧ ((SqL K H p ys ∧ ∀ l, H l = none → Q (.ref l) (upd H l (.tup ys))) ∨ (SqT K H p ys ∧ Q (.ref p) H))
theorem tupleK (h : X.K = K) : CallR X (.type "tuple") (rTupOfK K) := by subst h; exact call_tuple_of
end
end MyG
namespace MyG
open PySem PySem.Spec PyProof.Rows L2 Evl TL
abbrev HALL : List Nat := [104, 97, 108, 108]
abbrev LINK : List Nat := [108, 105, 110, 107]
def hallW (p : Int) : List (List Nat) := [HALL, numL p.toNat]
def linkW (r : Int × Int × Int) : List (List Nat) := [LINK, numL r.1.toNat, numL r.2.1.toNat, numL r.2.2.toNat]
def writtenL (ps : List Int) (rs : List (Int × Int × Int)) : List Nat := ((ps.map hallW ++ rs.map linkW).map (fun w => joinL [32] w ++ [10])).flatten
/-- a text's rows, as words, those without words left out -/
def linesL (l : List Nat) : List (List (List Nat)) := ((spl [10] 0 [] l).map wordsL).filter (fun w => !w.isEmpty)
theorem given_filter {α : Type} (p : α → Bool) (g : α → V) : ∀ ys : List α, given ys.length (fun i => (ys[i]?.map p).getD false) (fun i => (ys[i]?.map g).getD .non) = (ys.filter p).map g
  | [] => rfl
  | y :: r => by
    have ih := given_filter p g r
    unfold given at ih ⊢
    rw [List.length_cons, List.range_succ_eq_map, List.filter_cons, List.filter_map]
    cases hp : p y with
    | true =>
      rw [if_pos (by simp [hp]), List.filter_cons, if_pos hp, List.map_cons, List.map_cons, List.map_map, ← ih]
      congr 1
    | false =>
      rw [if_neg (by simp [hp]), List.filter_cons, if_neg (by rw [hp]; exact Bool.false_ne_true), List.map_map, ← ih]
      congr 1
theorem split_tl (z y : Str) {c : Nat} (hy : tl y = [c]) (hc : c < 256) : (Txt.split z y).map tl = spl [c] 0 [] (tl z) := by
  rw [split_spl z y (by rw [hy]; simp) (kind_ok (by
    have : y = ⟨#[c]⟩ := ext_tl hy
    subst this
    simpa using hc)), hy]
theorem words_tl (z y : Str) (hy : tl y = [32]) : ((Txt.split z y).filter fun w => w.length != 0).map tl = wordsL (tl z) := by
  unfold wordsL
  rw [← split_tl z y hy (by decide), List.filter_map]
  congr 1
  refine List.filter_congr fun w _ => ?_
  show (w.length != 0) = !(tl w).isEmpty
  rw [len_tl]
  cases tl w <;> rfl
theorem spl_lines {parts : List (List Nat)} (hne : parts ≠ []) (h : ∀ p ∈ parts, 10 ∉ p) : spl [10] 0 [] (joinL [10] parts) = parts := spl_join (s := 10) (S := []) hne h
theorem joinL_end : ∀ ps : List (List Nat), (ps.map (fun w => w ++ [10])).flatten = joinL [10] (ps ++ [[]])
  | [] => rfl
  | [p] => by simp [joinL]
  | p :: q :: r => by
    have ih := joinL_end (q :: r)
    rw [List.map_cons, List.flatten_cons, ih]
    show p ++ [10] ++ joinL [10] ((q :: r) ++ [[]]) = p ++ ([10] ++ joinL [10] ((q :: r) ++ [[]]))
    rw [List.append_assoc]
theorem hallW_ok (p : Int) : ∀ w ∈ hallW p, 32 ∉ w ∧ w ≠ [] ∧ 10 ∉ w := by
  intro w hw
  simp only [hallW, List.mem_cons, List.not_mem_nil, or_false] at hw
  rcases hw with rfl | rfl
  · decide
  · exact ⟨numL_free (by decide), numL_ne _, numL_free (by decide)⟩
theorem linkW_ok (r : Int × Int × Int) : ∀ w ∈ linkW r, 32 ∉ w ∧ w ≠ [] ∧ 10 ∉ w := by
  intro w hw
  simp only [linkW, List.mem_cons, List.not_mem_nil, or_false] at hw
  rcases hw with rfl | rfl | rfl | rfl
  · decide
  all_goals exact ⟨numL_free (by decide), numL_ne _, numL_free (by decide)⟩
theorem rowW_ok {ps : List Int} {rs : List (Int × Int × Int)} {ws : List (List Nat)} (h : ws ∈ ps.map hallW ++ rs.map linkW) : (∀ w ∈ ws, 32 ∉ w ∧ w ≠ [] ∧ 10 ∉ w) ∧ ws ≠ [] := by
  rcases List.mem_append.mp h with h | h
  · obtain ⟨p, _, rfl⟩ := List.mem_map.mp h
    exact ⟨hallW_ok p, by simp [hallW]⟩
  · obtain ⟨r, _, rfl⟩ := List.mem_map.mp h
    exact ⟨linkW_ok r, by simp [linkW]⟩
theorem joinL_free {c : Nat} (hc : c ≠ 32) : ∀ {ws : List (List Nat)}, (∀ w ∈ ws, c ∉ w) → c ∉ joinL [32] ws
  | [], _ => by simp [joinL]
  | [w], h => h w (List.mem_singleton.mpr rfl)
  | w :: v :: r, h => by
    show c ∉ w ++ ([32] ++ joinL [32] (v :: r))
    have ih := joinL_free hc fun z hz => h z (List.mem_cons_of_mem w hz)
    simp only [List.mem_append, List.mem_singleton, not_or]
    exact ⟨h w (List.mem_cons_self ..), hc, ih⟩
/-- lines whose words are W -/
theorem linesL_of {parts : List (List Nat)} {W : List (List (List Nat))} (hne : parts ≠ []) (h : ∀ p ∈ parts, 10 ∉ p) (hw : (parts.map wordsL).filter (fun w => !w.isEmpty) = W) : linesL (joinL [10] parts) = W := by
  unfold linesL
  rw [spl_lines hne h, hw]
theorem rows_words {W : List (List (List Nat))} (h : ∀ ws ∈ W, (∀ w ∈ ws, 32 ∉ w ∧ w ≠ [] ∧ 10 ∉ w) ∧ ws ≠ []) : ((W.map (joinL [32])).map wordsL).filter (fun w => !w.isEmpty) = W := by
  rw [List.map_map]
  have e : W.map (wordsL ∘ joinL [32]) = W := by
    refine (List.map_congr_left (g := id) fun ws hws => ?_).trans (List.map_id _)
    exact wordsL_join fun w hw => ⟨((h ws hws).1 w hw).1, ((h ws hws).1 w hw).2.1⟩
  rw [e]
  exact List.filter_eq_self.mpr fun ws hws => by
    have := (h ws hws).2
    cases ws
    · exact absurd rfl this
    · rfl
end MyG
namespace MyG
open PySem TL
theorem pre1 (c d : Nat) (r : List Nat) : pre [c] (d :: r) = (d == c) := by
  unfold pre
  simp only [List.length_singleton, List.take_succ_cons, List.take_zero]
  by_cases h : d = c
  · subst h; simp
  · have e : (d == c) = false := by simpa using h
    rw [e]
    simp [h]
theorem spl_many (c : Nat) : ∀ (l acc : List Nat), (spl [c] 0 acc l).length ≤ l.length + 1
  | [], acc => by rw [spl_nil]; exact Nat.le_refl _
  | d :: r, acc => by
    cases h : pre [c] (d :: r) with
    | true =>
      rw [spl_hit h]
      have := spl_many c r []
      show (spl [c] 0 [] r).length + 1 ≤ r.length + 1 + 1
      omega
    | false =>
      rw [spl_miss h, List.length_cons]
      have := spl_many c r (acc ++ [d])
      omega
theorem spl_short (c : Nat) : ∀ (l acc : List Nat), ∀ p ∈ spl [c] 0 acc l, p.length ≤ acc.length + l.length
  | [], acc => by
    rw [spl_nil]
    intro p hp
    rw [List.mem_singleton.mp hp]
    exact Nat.le_refl _
  | d :: r, acc => by
    intro p hp
    cases h : pre [c] (d :: r) with
    | true =>
      rw [spl_hit h] at hp
      rw [List.length_cons]
      rcases List.mem_cons.mp hp with rfl | hp
      · omega
      · have := spl_short c r [] p hp
        rw [List.length_nil] at this
        omega
    | false =>
      rw [spl_miss h] at hp
      have := spl_short c r (acc ++ [d]) p hp
      rw [List.length_append, List.length_singleton] at this
      rw [List.length_cons]
      omega
theorem split_bounds (z y : Str) {c : Nat} (hy : tl y = [c]) (hc : c < 256) : (Txt.split z y).length ≤ z.length + 1 ∧ ∀ w ∈ Txt.split z y, w.length ≤ z.length := by
  have e := split_tl z y hy hc
  refine ⟨?_, fun w hw => ?_⟩
  · have := spl_many c (tl z) []
    rw [← e, List.length_map] at this
    rw [len_tl z]
    exact this
  · have := spl_short c (tl z) [] (tl w) (by rw [← e]; exact List.mem_map_of_mem hw)
    rw [len_tl w, len_tl z]
    simpa using this
end MyG
namespace MyG
open PySem PySem.Spec PyProof.Rows L2 Evl
theorem given_all' (ys : List V) : given ys.length (fun _ => true) (fun i => ys.getD i .non) = ys := by
  unfold given
  rw [List.filter_eq_self.mpr (fun _ _ => rfl)]
  refine List.ext_getElem (by simp) (fun i h1 h2 => ?_)
  rw [List.getElem_map, List.getElem_range, List.getD_eq_getElem?_getD, List.getElem?_eq_getElem h2]
  rfl
theorem el_mapN {K : PySem.W.Frag} {σ : L2.St} {H : Hp} {te : TE} {xs ys : List V} {tl : TE} {j : Nat} {vs : List Nat} (h : EvL tl σ H xs) (hz : xs.length ≤ 40000) (hl : ys.length = xs.length)
    (hw : ∀ x, wipe ((wipe σ vs).set j (some x)) vs = wipe σ vs) (he : ∀ (i : Nat) (x y : V) H1, Ex H H1 → xs[i]? = some x → ys[i]? = some y → Ev te ((wipe σ vs).set j (some x)) H1 y) : EvL (tLc (iList K tl) (gName j) tYes te vs) σ H ys := by
  have k := el_lcNL (K := K) (t := tYes) (te := te) (fun _ => true) (fun i => ys.getD i .non) h hz hw (fun i x H1 e hi => fun H1 _ _ q => q H1 (Ex.refl H1)) (fun i x H1 e hi _ => by
    have h1 := (List.getElem?_eq_some_iff.mp hi).1
    have h2 : i < ys.length := by omega
    rw [show ys.getD i .non = ys[i] by rw [List.getD_eq_getElem?_getD, List.getElem?_eq_getElem h2]; rfl]
    exact he i x _ H1 e hi (List.getElem?_eq_getElem h2))
  rw [← hl, given_all'] at k
  exact k
end MyG
namespace MyG
open PySem PySem.Spec PyProof.Rows L2 Evl TL
def numS (i : Int) : Str := Str.ofString (toString i)
theorem tl_numS {i : Int} (h : 0 ≤ i) : tl (numS i) = numL i.toNat := by
  obtain ⟨n, rfl⟩ : ∃ n : Nat, i = (n : Int) := ⟨i.toNat, by omega⟩
  exact tl_num n
theorem numS_len {i : Int} (h : 0 ≤ i) (h2 : i < 10000) : (numS i).length ≤ 4 := by
  rw [len_tl, tl_numS h]
  exact numL_len (k := 4) (by decide) (by omega)
theorem log_small {i : Int} (h : 0 ≤ i) (h2 : i < 10000) : i.natAbs.log2 < 1920 := by
  by_cases z : i.natAbs = 0
  · rw [z]; decide
  · exact (Nat.log2_lt z).mpr (Nat.lt_of_lt_of_le (show i.natAbs < 10000 by omega) (by decide +kernel))
/-- f"hall {p}\n", f"link {..} {..} {..}\n" -/
def hallF (p : Int) : Str := Str.empty ++ "hall " ++ numS p ++ "\n"
def linkF (r : Int × Int × Int) : Str := Str.empty ++ "link " ++ numS r.1 ++ " " ++ numS r.2.1 ++ " " ++ numS r.2.2 ++ "\n"
/-- "hall " + str(p), " ".join(["link", ..]) -/
def hallR (p : Int) : Str := "hall " ++ numS p
def linkR (r : Int × Int × Int) : Str := Txt.join " " ["link", numS r.1, numS r.2.1, numS r.2.2]
theorem tl_h : tl ("hall " : Str) = [104, 97, 108, 108, 32] := by decide +kernel
theorem tl_l : tl ("link " : Str) = [108, 105, 110, 107, 32] := by decide +kernel
theorem tl_lk : tl ("link" : Str) = [108, 105, 110, 107] := by decide +kernel
theorem tl_b : tl (" " : Str) = [32] := by decide +kernel
theorem tl_n : tl ("\n" : Str) = [10] := by decide +kernel
theorem tl_e : tl Str.empty = [] := rfl
theorem tl_hallF {p : Int} (h : 0 ≤ p) : tl (hallF p) = joinL [32] (hallW p) ++ [10] := by
  unfold hallF
  rw [tl_append, tl_append, tl_append, tl_e, tl_h, tl_n, tl_numS h]
  rfl
theorem tl_hallR {p : Int} (h : 0 ≤ p) : tl (hallR p) = joinL [32] (hallW p) := by
  unfold hallR
  rw [tl_append, tl_h, tl_numS h]
  rfl
theorem tl_linkF {r : Int × Int × Int} (h1 : 0 ≤ r.1) (h2 : 0 ≤ r.2.1) (h3 : 0 ≤ r.2.2) : tl (linkF r) = joinL [32] (linkW r) ++ [10] := by
  unfold linkF
  rw [tl_append, tl_append, tl_append, tl_append, tl_append, tl_append, tl_append, tl_e, tl_l, tl_n, tl_b, tl_numS h1, tl_numS h2, tl_numS h3]
  simp [linkW, joinL]
theorem tl_linkR {r : Int × Int × Int} (h1 : 0 ≤ r.1) (h2 : 0 ≤ r.2.1) (h3 : 0 ≤ r.2.2) : tl (linkR r) = joinL [32] (linkW r) := by
  unfold linkR
  rw [join_eq, tl_join, tl_b]
  simp only [List.map_cons, List.map_nil, tl_lk, tl_numS h1, tl_numS h2, tl_numS h3]
  rfl
theorem joinL_nil : ∀ ps : List (List Nat), joinL [] ps = ps.flatten
  | [] => rfl
  | [p] => by simp [joinL]
  | p :: q :: r => by
    show p ++ ([] ++ joinL [] (q :: r)) = _
    rw [joinL_nil (q :: r), List.nil_append]
    rfl
theorem sum_bound {N : Nat} : ∀ {ys : List Str}, (∀ y ∈ ys, y.length ≤ N) → (ys.map (·.length)).sum ≤ N * ys.length
  | [], _ => Nat.zero_le _
  | y :: r, h => by
    have a := h y (List.mem_cons_self ..)
    have b := sum_bound fun z hz => h z (List.mem_cons_of_mem y hz)
    rw [List.map_cons, List.sum_cons, List.length_cons, Nat.mul_add, Nat.mul_one]
    omega
theorem app_len (x y : Str) : (x ++ y).length = x.length + y.length := by
  rw [len_tl, tl_append, List.length_append, ← len_tl, ← len_tl]
theorem len_lits : ("hall " : Str).length = 5 ∧ ("link " : Str).length = 5 ∧ ("link" : Str).length = 4 ∧ (" " : Str).length = 1 ∧ ("\n" : Str).length = 1 ∧ Str.empty.length = 0 := by decide +kernel
end MyG
namespace MyG
open PySem PySem.Spec PyProof.Rows L2 Evl TL
theorem str_ok {x : Str} (hc : ∀ c ∈ tl x, c < 128) : (PyData.str x).canLay0 = true := by
  simp only [PyData.canLay0]
  unfold PyData.strOk
  rw [Array.all_eq_true_iff_forall_mem]
  intro c h
  exact decide_eq_true (Nat.lt_trans (hc c (Array.mem_toList_iff.mpr h)) (by decide))
theorem small_str {x : Str} {N : Nat} (hl : x.length ≤ N) (hc : ∀ c ∈ tl x, c < 128) : Small (.str x) 0 (10 * N + 2) := by
  refine ⟨rfl, rfl, Nat.le_refl _, ?_, str_ok hc⟩
  have h := PySem.StrLaws.reprText_len x fun c hc' => Nat.lt_trans (hc c hc') (by decide)
  simp only [PyData.shown]
  omega
theorem joinL_small {N : Nat} (hN : 32 < N) : ∀ {ws : List (List Nat)}, (∀ w ∈ ws, ∀ c ∈ w, c < N) → ∀ c ∈ joinL [32] ws, c < N
  | [], _, c, hc => by simp [joinL] at hc
  | [w], h, c, hc => h w (List.mem_singleton.mpr rfl) c hc
  | w :: v :: r, h, c, hc => by
    have hc' : c ∈ w ++ ([32] ++ joinL [32] (v :: r)) := hc
    rcases List.mem_append.mp hc' with k | k
    · exact h w (List.mem_cons_self ..) c k
    · rcases List.mem_append.mp k with k | k
      · rw [List.mem_singleton.mp k]; exact hN
      · exact joinL_small hN (fun z hz => h z (List.mem_cons_of_mem w hz)) c k
theorem rowW_small {ps : List Int} {rs : List (Int × Int × Int)} {ws : List (List Nat)} (h : ws ∈ ps.map hallW ++ rs.map linkW) : ∀ w ∈ ws, ∀ c ∈ w, c < 128 := by
  have num : ∀ n : Nat, ∀ c ∈ numL n, c < 128 := fun n c hc => by
    have := numL_digits n c hc
    omega
  rcases List.mem_append.mp h with h | h
  · obtain ⟨p, _, rfl⟩ := List.mem_map.mp h
    intro w hw
    simp only [hallW, List.mem_cons, List.not_mem_nil, or_false] at hw
    rcases hw with rfl | rfl
    · decide
    · exact num _
  · obtain ⟨r, _, rfl⟩ := List.mem_map.mp h
    intro w hw
    simp only [linkW, List.mem_cons, List.not_mem_nil, or_false] at hw
    rcases hw with rfl | rfl | rfl | rfl
    · decide
    · exact num _
    · exact num _
    · exact num _
theorem written_small {ps : List Int} {rs : List (Int × Int × Int)} : ∀ c ∈ writtenL ps rs, c < 128 := by
  intro c hc
  unfold writtenL at hc
  obtain ⟨l, hl, hc⟩ := List.mem_flatten.mp hc
  obtain ⟨ws, hws, rfl⟩ := List.mem_map.mp hl
  rcases List.mem_append.mp hc with hc | hc
  · exact joinL_small (by decide) (rowW_small hws) c hc
  · rw [List.mem_singleton.mp hc]; decide
/-- a comprehension over a known list that gives each thing as it is -/
theorem el_mapN' {K : PySem.W.Frag} {σ : L2.St} {H : Hp} {te : TE} {a : Addr} {xs : List V} {tl : TE} {j : Nat} {vs : List Nat} (h : Ev tl σ H (.ref a)) (hx : H a = some (.lst xs)) (hz : xs.length ≤ 40000)
    (hw : ∀ x, wipe ((wipe σ vs).set j (some x)) vs = wipe σ vs) (he : ∀ (i : Nat) (x : V) H1, Ex H H1 → xs[i]? = some x → Ev te ((wipe σ vs).set j (some x)) H1 x) : EvL (tLc (iList K tl) (gName j) tYes te vs) σ H xs := by
  have k := el_lcL (K := K) (t := tYes) (te := te) (fun _ => true) (fun i => xs.getD i .non) h (SqL.of hx) hz hw (fun i x H1 e hi => fun H1 _ _ q => q H1 (Ex.refl H1)) (fun i x H1 e hi _ => by
    rw [show xs.getD i .non = x by rw [List.getD_eq_getElem?_getD, hi]; rfl]
    exact he i x H1 e hi)
  rw [given_all'] at k
  exact k
/-- and over a known tuple -/
theorem el_mapTN' {K : PySem.W.Frag} {σ : L2.St} {H : Hp} {te : TE} {a : Addr} {xs : List V} {tl : TE} {j : Nat} {vs : List Nat} (h : Ev tl σ H (.ref a)) (hx : SqT K H a xs) (hz : xs.length ≤ 40000)
    (hw : ∀ x, wipe ((wipe σ vs).set j (some x)) vs = wipe σ vs) (he : ∀ (i : Nat) (x : V) H1, Ex H H1 → xs[i]? = some x → Ev te ((wipe σ vs).set j (some x)) H1 x) : EvL (tLc (iTup K tl) (gName j) tYes te vs) σ H xs := fun H0 e Q q =>
  h H0 e _ fun H1 e1 => ⟨a, rfl, ⟨xs, ex_t (e.trans e1) hx⟩, fun Dl hD => by
    refine lc_tup (xs := xs) (fun i H' => Ex H1 H' ∧ H' Dl = some (.lst (xs.take i))) ⟨Ex.new hD, upd_same⟩ (fun i H' _ p => ex_t ((e.trans e1).trans p.1) hx) (fun i x H' hi p => ⟨hw x, un_yes (iteT ?_)⟩) (fun H' p => q Dl H' (fresh_back e1 hD) (e1.trans p.1) ?_)
    · have h1 := (List.getElem?_eq_some_iff.mp hi).1
      refine he i x H' ((e.trans e1).trans p.1) hi H' (Ex.refl _) _ (fun H2 e2 => ⟨_, e2 _ _ p.2, ?_, (p.1.trans e2).mut hD, ?_⟩)
      · rw [List.length_take]; exact sz_lt (by omega)
      · rw [upd_same, List.take_add_one, hi]; rfl
    · rw [p.2, List.take_length]⟩
end MyG

set_option maxHeartbeats 2000000
namespace K19
open PySem PySem.Spec PyProof.Rows L2 Evl MyG
theorem dget_door {H : Hp} {e b : Addr} {kvs : List (List Key × V)} {d : Door} {v : V} (h1 : H e = some (.dT kvs)) (h2 : H b = some (.tup (doorV d))) (h3 : valV kvs (keyD d) = some v) : DGet H e (.ref b) (some v) := by
  rw [← h3]
  exact DGet.t (k := keyD d) h1 h2
/-- a post of a net, in a region -/
structure PostOk (N C S A : Addr) (B M H : Hp) (p n : Addr) (ps qs : List Int) (rs : List Row) (ds : List Door) (ls : List (List Lt)) : Prop where
  eB : Ex B H
  eM : Ex M H
  net : NetAt N B n ps qs rs
  post : PostAt C S A B M p n ds ls
  h12 : rs.length ≤ 12
theorem len_lt {n : Nat} (h : n ≤ 100000) : n < sizeLine := Nat.lt_of_le_of_lt h (by decide)
theorem lts_snoc {S A : Addr} {B : Hp} {a : Addr} {l : Lt} (ha : LtAt S A B a l) : ∀ {xs : List V} {row : List Lt}, LtsAt S A B xs row → LtsAt S A B (xs ++ [.ref a]) (row ++ [l])
  | _, _, .nil => .cons ⟨a, rfl, ha⟩ .nil
  | _, _, .cons h t => .cons h (lts_snoc ha t)
theorem seq0 {n : Nat} (h : 0 < n) : seqIndex? 0 n = some 0 := (ixN_seq (Evl.ixN_nat h)).1
def sp_psend (N C S A : Addr) : Sp := fun vs H Q _ => ∃ (p n a : Addr) (k : Nat) (h : Int) (l : Lt) (B M : Hp) (ps qs : List Int) (rs : List Row) (ds : List Door) (ls : List (List Lt)) (r : Row) (i : Nat) (row : List Lt), vs = [.ref p, .int (k : Int), .int h, .ref a] ∧
  PostOk N C S A B M H p n ps qs rs ds ls ∧ rs[k]? = some r ∧ (h = r.1 ∨ h = r.2.1) ∧ ds[i]? = some ((k : Int), if h = r.1 then r.2.1 else r.1) ∧ ls[i]? = some row ∧ row.length ≤ 5000 ∧ LtAt S A B a l ∧
  ∀ M' H', PostAt C S A B M' p n ds (ls.set i (row ++ [l])) → Chg M M' H H' → Q .non H'
def sp_prow (N C S A : Addr) : Sp := fun vs H Q _ => ∃ (p n : Addr) (k : Nat) (h : Int) (B M : Hp) (ps qs : List Int) (rs : List Row) (ds : List Door) (ls : List (List Lt)) (r : Row) (i : Nat) (l : Lt) (row : List Lt), vs = [.ref p, .int (k : Int), .int h] ∧
  PostOk N C S A B M H p n ps qs rs ds ls ∧ rs[k]? = some r ∧ (h = r.1 ∨ h = r.2.1) ∧ ds[i]? = some ((k : Int), h) ∧ ls[i]? = some (l :: row) ∧
  ∀ u H', Ex H H' → RowAt C M p n ((k : Int), h) u → Q (.ref u) H'
def sp_pfirst (N C S A : Addr) : Sp := fun vs H Q _ => ∃ (p n : Addr) (k : Nat) (h : Int) (B M : Hp) (ps qs : List Int) (rs : List Row) (ds : List Door) (ls : List (List Lt)) (r : Row) (i : Nat) (l : Lt) (row : List Lt), vs = [.ref p, .int (k : Int), .int h] ∧
  PostOk N C S A B M H p n ps qs rs ds ls ∧ rs[k]? = some r ∧ (h = r.1 ∨ h = r.2.1) ∧ ds[i]? = some ((k : Int), h) ∧ ls[i]? = some (l :: row) ∧
  ∀ a H', Ex H H' → LtAt S A B a l → Q (.ref a) H'
def sp_ptake (N C S A : Addr) : Sp := fun vs H Q _ => ∃ (p n : Addr) (k : Nat) (h : Int) (B M : Hp) (ps qs : List Int) (rs : List Row) (ds : List Door) (ls : List (List Lt)) (r : Row) (i : Nat) (l : Lt) (row : List Lt), vs = [.ref p, .int (k : Int), .int h] ∧
  PostOk N C S A B M H p n ps qs rs ds ls ∧ rs[k]? = some r ∧ (h = r.1 ∨ h = r.2.1) ∧ ds[i]? = some ((k : Int), h) ∧ ls[i]? = some (l :: row) ∧
  ∀ a M' H', PostAt C S A B M' p n ds (ls.set i row) → Chg M M' H H' → LtAt S A B a l → Q (.ref a) H'
section
variable {P : Program} {w : World} {K : PySem.W.Frag} {mg : Str → Option Value} {base : Heap}
theorem ok_psend (T : Tx K mg) : FnOk P w K mg base CX0 4 T.a_Post_send T.d_Post_send ["self", "link", "hall", "letter"] (sp_psend T.c_Net T.c_Post T.c_Say T.c_Agree) := by
  have G_Net_beyond := ok_nbeyond (P := P) (w := w) (base := base) T
  refine T.F_Post_send.ok sc_Post_send (fun vs H Q E h => ?_) (fun cdv A outer s H vs Q E hr h => ?_)
  · obtain ⟨_, _, _, _, _, _, _, _, _, _, _, _, _, _, _, _, rfl, _⟩ := h
    rfl
  · obtain ⟨p, n, a, k, h, l, B, M, ps, qs, rs, ds, ls, r, i, row, rfl, ok, hk, hor, hd, hl, few, ha, q⟩ := h
    refine ⟨_, (pss_cons (ps_set (i := 4) sc_Post_send.nd rfl (Or.inl rfl) (pe_meth (fldK (K := K) rfl (pv 0) rfl) T.cl_Net T.me_Net_beyond G_Net_beyond (hr.mono (by decide)) T.b_Net_beyond .nil pass0 (pa_cons (pv 1) (pa_cons (pv 2) pa_nil))))
  (pss_one (ps_expr (pe_bm PySem.F.plainAttrs_list PySem.F.slot_list_append PySem.F.type_list_append mt_append (pe_dget (Nat.lt_of_le_of_lt (Nat.add_le_add_left (by decide) _) hr.units) (fldK (K := K) rfl (pv 0) rfl) (pe_tup (pa_cons (pv 1) (pa_cons (pv 4) pa_nil))) (fun _ _ => rfl)) (pa_cons (pv 3) pa_nil))))), ?_⟩
    obtain ⟨u, xs, hu, hM, hxs, put⟩ := ok.post.row hd hl
    obtain ⟨dx, e, kvs, h1, h2, h3⟩ := hu
    obtain ⟨dxn, hx, r', ll, ts, hn, _⟩ := id ok.net.ex
    refine ⟨_, rfl, p, T.c_Post, dx, _, _, rfl, ok.eM _ _ h1, T.cl_Post, T.n_Post__net, pf_n _ _, n, dxn, _, rfl, ok.eB _ _ hn, nf_no _ _ _ (by decide +kernel) (by decide +kernel) (by decide +kernel), _, rfl, _, rfl, n, B, ps, qs, rs, k, r, h, rfl, ok.eB, ok.net, hk, ok.h12, hor, fun H1 e1 => ?_⟩
    have m1 := ok.eM.trans e1
    refine ⟨_, rfl, p, T.c_Post, dx, _, _, rfl, m1 _ _ h1, T.cl_Post, T.n_Post__rows, pf_d _ _, _, rfl, _, rfl, by show 2 ≤ sizeLine; decide, fun t ht => ?_⟩
    have e2 := Ex.new (o := .tup (doorV ((k : Int), if h = r.1 then r.2.1 else r.1))) ht
    have m2 := m1.trans e2
    refine ⟨e, .ref u, rfl, dget_door (m2 _ _ h2) upd_same h3, .inl ⟨rfl, _, SqL.of (m2 _ _ hM)⟩, _, rfl, u, _, _, rfl, rfl, m2 _ _ hM, len_lt (by rw [Paired.length hxs]; omega), ?_⟩
    exact q _ _ (put _ _ (lts_snoc ha hxs)) ((Chg.ext ok.eM (e1.trans e2)).trans (Chg.put m2 hM))
theorem ok_prow (T : Tx K mg) : FnOk P w K mg base CX0 4 T.a_Post__row T.d_Post__row ["self", "link", "hall"] (sp_prow T.c_Net T.c_Post T.c_Say T.c_Agree) := by
  have G_Net_beyond := ok_nbeyond (P := P) (w := w) (base := base) T
  refine T.F_Post__row.ok sc_Post__row (fun vs H Q E h => ?_) (fun cdv A outer s H vs Q E hr h => ?_)
  · obtain ⟨_, _, _, _, _, _, _, _, _, _, _, _, _, _, _, rfl, _⟩ := h
    rfl
  · obtain ⟨p, n, k, h, B, M, ps, qs, rs, ds, ls, r, i, l, row, rfl, ok, hk, hor, hd, hl, q⟩ := h
    refine ⟨_, (pss_cons (ps_expr (pe_meth (fldK (K := K) rfl (pv 0) rfl) T.cl_Net T.me_Net_beyond G_Net_beyond (hr.mono (by decide)) T.b_Net_beyond .nil pass0 (pa_cons (pv 1) (pa_cons (pv 2) pa_nil))))
  (pss_cons (ps_set (i := 3) sc_Post__row.nd rfl (Or.inl rfl) (pe_dget (Nat.lt_of_le_of_lt (Nat.add_le_add_left (by decide) _) hr.units) (fldK (K := K) rfl (pv 0) rfl) (pe_tup (pa_cons (pv 1) (pa_cons (pv 2) pa_nil))) (fun _ _ => rfl)))
  (pss_cons (ps_if (pt_not (truthK (K := K) rfl (pv 3) (fun _ => rfl))) (pss_one ps_never) pss_nil)
  (pss_one (ps_ret (pv 3)))))), ?_⟩
    obtain ⟨u, xs, hu, hM, hxs, put⟩ := ok.post.row hd hl
    have hu' := hu
    obtain ⟨dx, e, kvs, h1, h2, h3⟩ := hu
    obtain ⟨dxn, hx, r', ll, ts, hn, _⟩ := id ok.net.ex
    refine ⟨_, rfl, p, T.c_Post, dx, _, _, rfl, ok.eM _ _ h1, T.cl_Post, T.n_Post__net, pf_n _ _, n, dxn, _, rfl, ok.eB _ _ hn, nf_no _ _ _ (by decide +kernel) (by decide +kernel) (by decide +kernel), _, rfl, _, rfl, n, B, ps, qs, rs, k, r, h, rfl, ok.eB, ok.net, hk, ok.h12, hor, fun H1 e1 => ?_⟩
    have m1 := ok.eM.trans e1
    refine ⟨_, rfl, p, T.c_Post, dx, _, _, rfl, m1 _ _ h1, T.cl_Post, T.n_Post__rows, pf_d _ _, _, rfl, _, rfl, by show 2 ≤ sizeLine; decide, fun t ht => ?_⟩
    have e2 := Ex.new (o := .tup (doorV ((k : Int), h))) ht
    have m2 := m1.trans e2
    refine ⟨e, .ref u, rfl, dget_door (m2 _ _ h2) upd_same h3, ?_⟩
    have m3 : (upd H1 t (.tup (doorV ((k : Int), h)))) u = some (.lst xs) := m2 _ _ hM
    cases hxs with
    | @cons x l' xs ls' hx1 hx2 =>
      refine ⟨_, rfl, true, .inl ⟨_, SqL.of m3, rfl⟩, iteF ⟨_, rfl, ?_⟩⟩
      exact q u _ (e1.trans e2) hu'
theorem ok_pfirst (T : Tx K mg) : FnOk P w K mg base CX0 5 T.a_Post_first T.d_Post_first ["self", "link", "hall"] (sp_pfirst T.c_Net T.c_Post T.c_Say T.c_Agree) := by
  have G_Post__row := ok_prow (P := P) (w := w) (base := base) T
  refine T.F_Post_first.ok sc_Post_first (fun vs H Q E h => ?_) (fun cdv A outer s H vs Q E hr h => ?_)
  · obtain ⟨_, _, _, _, _, _, _, _, _, _, _, _, _, _, _, rfl, _⟩ := h
    rfl
  · obtain ⟨p, n, k, h, B, M, ps, qs, rs, ds, ls, r, i, l, row, rfl, ok, hk, hor, hd, hl, q⟩ := h
    refine ⟨_, (pss_one (ps_ret (pe_ix (ix_listK (K := K) rfl) (pe_meth (pv 0) T.cl_Post T.me_Post__row G_Post__row (hr.mono (by decide)) T.b_Post__row .nil pass0 (pa_cons (pv 1) (pa_cons (pv 2) pa_nil))) pe_int (fun _ _ => rfl)))), ?_⟩
    obtain ⟨dx, e, rs', h1, _⟩ := id ok.post.ex
    refine ⟨_, rfl, p, dx, _, rfl, ok.eM _ _ h1, pf_no _ _ (by decide +kernel) (by decide +kernel), _, rfl, _, rfl, p, n, k, h, B, M, ps, qs, rs, ds, ls, r, i, l, row, rfl, ok, hk, hor, hd, hl, fun u H1 e1 hu => ?_⟩
    obtain ⟨u', xs, hu', hM, hxs, put⟩ := ok.post.row hd hl
    obtain rfl := hu.uniq hu'
    cases hxs with
    | @cons x l' xs ls' hx1 hx2 =>
      obtain ⟨a, rfl, ha⟩ := hx1
      exact ⟨u, _, 0, _, rfl, rfl, SqL.of ((ok.eM.trans e1) _ _ hM), atI_nat (j := 0) rfl, q a H1 e1 ha⟩
theorem ok_ptake (T : Tx K mg) : FnOk P w K mg base CX0 5 T.a_Post_take T.d_Post_take ["self", "link", "hall"] (sp_ptake T.c_Net T.c_Post T.c_Say T.c_Agree) := by
  have G_Post__row := ok_prow (P := P) (w := w) (base := base) T
  refine T.F_Post_take.ok sc_Post_take (fun vs H Q E h => ?_) (fun cdv A outer s H vs Q E hr h => ?_)
  · obtain ⟨_, _, _, _, _, _, _, _, _, _, _, _, _, _, _, rfl, _⟩ := h
    rfl
  · obtain ⟨p, n, k, h, B, M, ps, qs, rs, ds, ls, r, i, l, row, rfl, ok, hk, hor, hd, hl, q⟩ := h
    refine ⟨_, (pss_cons (ps_set (i := 3) sc_Post_take.nd rfl (Or.inl rfl) (pe_meth (pv 0) T.cl_Post T.me_Post__row G_Post__row (hr.mono (by decide)) T.b_Post__row .nil pass0 (pa_cons (pv 1) (pa_cons (pv 2) pa_nil))))
  (pss_one (ps_ret (pe_bm PySem.F.plainAttrs_list PySem.F.slot_list_pop PySem.F.type_list_pop mt_popAt (pv 3) (pa_cons pe_int pa_nil))))), ?_⟩
    obtain ⟨dx, e, rs', h1, _⟩ := id ok.post.ex
    refine ⟨_, rfl, p, dx, _, rfl, ok.eM _ _ h1, pf_no _ _ (by decide +kernel) (by decide +kernel), _, rfl, _, rfl, p, n, k, h, B, M, ps, qs, rs, ds, ls, r, i, l, row, rfl, ok, hk, hor, hd, hl, fun u H1 e1 hu => ?_⟩
    obtain ⟨u', xs, hu', hM, hxs, put⟩ := ok.post.row hd hl
    obtain rfl := hu.uniq hu'
    cases hxs with
    | @cons x l' xs ls' hx1 hx2 =>
      obtain ⟨a, rfl, ha⟩ := hx1
      have m1 := ok.eM.trans e1
      refine ⟨_, rfl, .inl ⟨rfl, _, SqL.of (m1 _ _ hM)⟩, u, _, 0, 0, .ref a, rfl, rfl, m1 _ _ hM, by decide, by decide, seq0 (by simp), rfl, ?_⟩
      exact q a _ _ (put _ _ hx2) ((Chg.ext ok.eM e1).trans (Chg.put m1 hM)) ha
end
end K19

set_option maxHeartbeats 2000000
namespace K19
open PySem PySem.Spec PyProof.Rows L2 Evl MyG
theorem kvs_len (ds : List Door) (rs : List Addr) (h : rs.length = ds.length) : (kvsOf ds rs).length = ds.length := by
  unfold kvsOf
  rw [List.length_zipWith]
  omega
theorem put_kvs {f : Addr} : ∀ {ds : List Door} {rs : List Addr} {i : Nat} {d : Door}, ds.Nodup → ds[i]? = some d → rs.length = ds.length → putK (kvsOf ds rs) (keyD d) (.ref f) = kvsOf ds (rs.set i f) := by
  intro ds rs i d nd hd hl
  have key : ∀ {ds : List Door} {rs : List Addr} {i : Nat}, ds.Nodup → ds[i]? = some d → rs.length = ds.length → ((kvsOf ds rs).map fun kv => if kv.1 = keyD d then (kv.1, V.ref f) else kv) = kvsOf ds (rs.set i f) := by
    intro ds
    induction ds with
    | nil => intro rs i _ h _; simp at h
    | cons d0 ds ih =>
      intro rs i nd h hl
      rw [List.nodup_cons] at nd
      cases rs with
      | nil => simp at hl
      | cons r0 rs =>
        have off : ∀ {rs : List Addr}, ¬ d ∈ ds → ((kvsOf ds rs).map fun kv => if kv.1 = keyD d then (kv.1, V.ref f) else kv) = kvsOf ds rs := by
          intro rs hn
          refine (List.map_congr_left fun kv hk => ?_).trans (List.map_id _)
          rw [if_neg fun e => ?_]
          · rfl
          · unfold kvsOf at hk
            obtain ⟨j, hj, e2⟩ := List.mem_iff_getElem.mp hk
            rw [List.getElem_zipWith] at e2
            rw [← e2] at e
            exact hn (by rw [← keyD_inj e]; exact List.getElem_mem _)
        cases i with
        | zero =>
          simp only [List.getElem?_cons_zero, Option.some.injEq] at h
          subst h
          show (if keyD d0 = keyD d0 then (keyD d0, V.ref f) else (keyD d0, V.ref r0)) :: ((kvsOf ds rs).map fun kv => if kv.1 = keyD d0 then (kv.1, V.ref f) else kv) = (keyD d0, V.ref f) :: kvsOf ds rs
          rw [if_pos rfl, off nd.1]
        | succ j =>
          simp only [List.getElem?_cons_succ] at h
          have ne : ¬ keyD d0 = keyD d := fun e => nd.1 (by rw [keyD_inj e]; exact List.mem_of_getElem? h)
          show (if keyD d0 = keyD d then (keyD d0, V.ref f) else (keyD d0, V.ref r0)) :: ((kvsOf ds rs).map fun kv => if kv.1 = keyD d then (kv.1, V.ref f) else kv) = (keyD d0, V.ref r0) :: kvsOf ds (rs.set j f)
          rw [if_neg ne, ih nd.2 h (by simpa using hl)]
  have hi : i < rs.length := by
    have := (List.getElem?_eq_some_iff.mp hd).1
    omega
  have isin : (valV (kvsOf ds rs) (keyD d)).isSome = true := by
    rw [valV_kvs nd hd (List.getElem?_eq_getElem hi)]
    rfl
  unfold putK
  rw [valV_any, if_pos isin]
  exact key nd hd hl
/-- a fresh row for a door -/
theorem PostAt.empty {C S A : Addr} {B M H : Hp} {p n f : Addr} {ds : List Door} {ls : List (List Lt)} {i : Nat} {d : Door} (h : PostAt C S A B M p n ds ls) (eM : Ex M H) (hf : H f = none) (hd : ds[i]? = some d) :
    ∃ dx e kvs, M p = some (.ins C dx (pf n e)) ∧ M e = some (.dT kvs) ∧ kvs.length = ds.length ∧ PostAt C S A B (upd (upd M f (.lst [])) e (.dT (putK kvs (keyD d) (.ref f)))) p n ds (ls.set i []) := by
  obtain ⟨dx, e, rs, h1, h2, h3, h4, h5⟩ := h.ex
  have nf : ∀ {a : Addr} {o : HO}, M a = some o → a ≠ f := fun ha z => by
    have := eM _ _ ha
    rw [z, hf] at this
    cases this
  have hi : i < rs.length := by
    have := (List.getElem?_eq_some_iff.mp hd).1
    omega
  refine ⟨dx, e, _, h1, h2, kvs_len _ _ h4, ⟨dx, e, rs.set i f, ?_, ?_, ?_, by rw [List.length_set]; exact h4, ?_⟩, h.nd⟩
  · rw [upd_ne (ne_of h1 h2 (by intro z; cases z)), upd_ne (nf h1)]
    exact h1
  · rw [upd_same, put_kvs h.nd hd h4]
  · have fn : ¬ f ∈ rs := fun hm => by
      obtain ⟨j, hj⟩ := List.mem_iff_getElem?.mp hm
      obtain ⟨_, _, xs, hx, _⟩ := paired_at h5 hj
      exact nf hx rfl
    clear h1 h2 h4 h5 hd
    induction rs generalizing i with
    | nil => simp
    | cons r0 rs ih =>
      rw [List.nodup_cons] at h3
      cases i with
      | zero =>
        show (f :: rs).Nodup
        exact List.nodup_cons.mpr ⟨fun z => fn (List.mem_cons_of_mem _ z), h3.2⟩
      | succ j =>
        show (r0 :: rs.set j f).Nodup
        refine List.nodup_cons.mpr ⟨fun z => ?_, ih h3.2 (by simpa using hi) fun z => fn (List.mem_cons_of_mem _ z)⟩
        rcases List.mem_or_eq_of_mem_set z with z | z
        · exact h3.1 z
        · exact fn (by rw [z]; exact List.mem_cons_self ..)
  · have keep : ∀ {rs' : List Addr} {ls' : List (List Lt)}, LanesAt S A B M rs' ls' → LanesAt S A B (upd (upd M f (.lst [])) e (.dT (putK (kvsOf ds rs) (keyD d) (.ref f)))) rs' ls' := fun h => Paired.mapP h fun r l ⟨xs, hx, hy⟩ => ⟨xs, by rw [upd_ne (ne_of hx h2 (by intro z; cases z)), upd_ne (nf hx)]; exact hx, hy⟩
    have at_f : ∃ xs, (upd (upd M f (.lst [])) e (.dT (putK (kvsOf ds rs) (keyD d) (.ref f)))) f = some (.lst xs) ∧ LtsAt S A B xs [] := ⟨[], by rw [upd_ne (nf h2).symm, upd_same], .nil⟩
    have h6 := keep h5
    clear h1 h2 h3 h4 h5 hd h eM hf nf
    revert at_f h6
    generalize (upd (upd M f (.lst [])) e (.dT (putK (kvsOf ds rs) (keyD d) (.ref f)))) = M2
    intro at_f h5
    clear keep
    induction rs generalizing ls i with
    | nil => exact absurd hi (by simp)
    | cons r0 rs ih =>
      cases h5 with
      | @cons _ l0 _ ls q t =>
        cases i with
        | zero => exact .cons at_f t
        | succ j => exact .cons q (ih (by simpa using hi) t)
def loseL (ls : List (List Lt)) (i j : Nat) : Nat → List (List Lt)
  | 0 => ls
  | 1 => ls.set i []
  | _ => (ls.set i []).set j []
def sp_plose (N C S A : Addr) : Sp := fun vs H Q _ => ∃ (p n : Addr) (k : Nat) (B M : Hp) (ps qs : List Int) (rs : List Row) (ds : List Door) (ls : List (List Lt)) (r : Row) (i j : Nat), vs = [.ref p, .int (k : Int)] ∧
  PostOk N C S A B M H p n ps qs rs ds ls ∧ rs[k]? = some r ∧ ds.length ≤ 1000 ∧ ds[i]? = some ((k : Int), lo r) ∧ ds[j]? = some ((k : Int), hi r) ∧ ∀ M' H', PostAt C S A B M' p n ds ((ls.set i []).set j []) → Chg M M' H H' → Q .non H'
end K19

set_option maxHeartbeats 2000000
namespace K19
open PySem PySem.Spec PyProof.Rows L2 Evl MyG
/-! ### doors to which letters come -/
def waits : List Door → List (List Lt) → List Door
  | d :: ds, l :: ls => if l.isEmpty then waits ds ls else d :: waits ds ls
  | _, _ => []
theorem waits_take : ∀ {ds : List Door} {ls : List (List Lt)} {i : Nat} {d : Door} {l : List Lt}, ds[i]? = some d → ls[i]? = some l → waits (ds.take (i + 1)) (ls.take (i + 1)) = waits (ds.take i) (ls.take i) ++ (if l.isEmpty then [] else [d])
  | [], _, _, _, _, h, _ => by simp at h
  | _ :: _, [], _, _, _, _, h => by simp at h
  | d0 :: ds, l0 :: ls, 0, d, l, h1, h2 => by
    simp only [List.getElem?_cons_zero, Option.some.injEq] at h1 h2
    subst h1 h2
    show (if l0.isEmpty then waits [] [] else d0 :: waits [] []) = [] ++ _
    cases l0.isEmpty <;> rfl
  | d0 :: ds, l0 :: ls, i + 1, d, l, h1, h2 => by
    simp only [List.getElem?_cons_succ] at h1 h2
    have ih := waits_take h1 h2
    show (if l0.isEmpty then waits (ds.take (i + 1)) (ls.take (i + 1)) else d0 :: waits (ds.take (i + 1)) (ls.take (i + 1))) = (if l0.isEmpty then waits (ds.take i) (ls.take i) else d0 :: waits (ds.take i) (ls.take i)) ++ _
    rw [ih]
    cases l0.isEmpty <;> rfl
def DoorsAt (H : Hp) : List V → List Door → Prop := Paired fun (x : V) (d : Door) => ∃ a, x = .ref a ∧ H a = some (.tup (doorV d))
theorem DoorsAt.keep {H H' : Hp} (e : ∀ a ys, H a = some (.tup ys) → H' a = some (.tup ys)) {xs : List V} {ds : List Door} (h : DoorsAt H xs ds) : DoorsAt H' xs ds := Paired.mapP h fun _ _ ⟨a, h1, h2⟩ => ⟨a, h1, e _ _ h2⟩
theorem DoorsAt.snoc {H : Hp} {a : Addr} {d : Door} (ha : H a = some (.tup (doorV d))) : ∀ {xs : List V} {ds : List Door}, DoorsAt H xs ds → DoorsAt H (xs ++ [.ref a]) (ds ++ [d])
  | _, _, .nil => .cons ⟨a, rfl, ha⟩ .nil
  | _, _, .cons h t => .cons h (DoorsAt.snoc ha t)
theorem kvs_at {ds : List Door} {rs : List Addr} {i : Nat} {k : List Key} {v : V} (h : (kvsOf ds rs)[i]? = some (k, v)) : ∃ d r, ds[i]? = some d ∧ rs[i]? = some r ∧ k = keyD d ∧ v = .ref r := by
  unfold kvsOf at h
  rw [List.getElem?_zipWith] at h
  cases hd : ds[i]? with
  | none => rw [hd] at h; cases h
  | some d =>
    cases hr : rs[i]? with
    | none => rw [hd, hr] at h; cases h
    | some r =>
      rw [hd, hr] at h
      have h := Option.some.inj h
      exact ⟨d, r, rfl, rfl, (congrArg Prod.fst h).symm, (congrArg Prod.snd h).symm⟩
theorem unlock_ex {H H' : Hp} {e : Addr} {od : Obj} {u : HO} (he : H e = some u) (h : Ex (upd H e (.frz od u)) H') : Ex H (upd H' e u) := fun a o ha => by
  by_cases z : a = e
  · rw [z, upd_same, ← he, ← z, ha]
  · rw [upd_ne z]
    exact h a o (by rw [upd_ne z]; exact ha)
def sp_pwaiting (C S A : Addr) : Sp := fun vs H Q _ => ∃ (p n : Addr) (B M : Hp) (ds : List Door) (ls : List (List Lt)), vs = [.ref p] ∧ Ex M H ∧ PostAt C S A B M p n ds ls ∧ ds.length ≤ 1000 ∧
  ∀ D xs H', H D = none → Ex H H' → H' D = some (.lst xs) → DoorsAt H' xs (waits ds ls) → Q (.ref D) H'
section
variable {P : Program} {w : World} {K : PySem.W.Frag} {mg : Str → Option Value} {base : Heap}
theorem ok_pwaiting (T : Tx K mg) : FnOk P w K mg base CX0 1 T.a_Post_waiting T.d_Post_waiting ["self"] (sp_pwaiting T.c_Post T.c_Say T.c_Agree) := by
  refine T.F_Post_waiting.ok sc_Post_waiting (fun vs H Q E h => ?_) (fun cdv A outer s H vs Q E hr h => ?_)
  · obtain ⟨_, _, _, _, _, _, rfl, _⟩ := h
    rfl
  · obtain ⟨p, n, B, M, ds, ls, rfl, eM, po, dl, q⟩ := h
    refine ⟨_, (pss_one (ps_ret (pe_lock (pe_lc (own := [("door", 1), ("row", 2)]) (g := (gTup K 2 (gCons (gName 1) (gCons (gName 2) gNil)))) rfl sc_Post_waiting.nd (pi_itemsT (fldK (K := K) rfl (pv 0) rfl)) (blkOk_by (N := n_Post_waiting) (sc := defScope s_Post_waiting) (by decide +kernel)) (fun _ _ _ _ _ => (pg_tup rfl (pgs_cons (pg_name (i := 1) sc_Post_waiting.nd rfl (Or.inl rfl)) (pgs_cons (pg_name (i := 2) sc_Post_waiting.nd rfl (Or.inl rfl)) pgs_nil)))) (fun _ _ _ _ _ => (pts_one (truthK (K := K) rfl (pv 2) (fun _ => rfl)))) (fun _ _ _ _ _ => (pv 1)))))), ?_⟩
    obtain ⟨dx, e, rs, h1, h2, nd, hl, hL⟩ := po.ex
    have he := eM _ _ h2
    have pe := ne_of h1 h2 (by intro z; cases z)
    refine ⟨e, _, he, True.intro, fun od => ?_⟩
    have hl2 : rs.length = ls.length := Paired.length hL
    have lk : (kvsOf ds rs).length = ds.length := kvs_len _ _ hl
    refine ⟨_, rfl, p, T.c_Post, dx, _, _, rfl, by rw [upd_ne pe]; exact eM _ _ h1, T.cl_Post, T.n_Post__rows, pf_d _ _, e, od, _, rfl, upd_same, fun D hD => ?_⟩
    have De : D ≠ e := fun z => by rw [z, upd_same] at hD; cases hD
    generalize hHL : upd H e (.frz od (.dT (kvsOf ds rs))) = HL at hD
    have locked : HL e = some (.frz od (.dT (kvsOf ds rs))) := by rw [← hHL]; exact upd_same
    refine lc_it walk_itemsT (fun i H' => ∃ xs, Ex HL H' ∧ H' D = some (.lst xs) ∧ xs.length ≤ i ∧ DoorsAt H' xs (waits (ds.take i) (ls.take i))) ⟨[], Ex.new hD, upd_same, Nat.zero_le _, by simp [waits]; exact .nil⟩ (fun i H' _ ⟨xs, ex, _⟩ => ex _ _ locked) ?_ ?_
    · rintro i x Ha Hb hi ⟨xs, ex, hDa, lx, hx⟩ ⟨T', k, v, a, hkv, ha, rfl, hT, rfl⟩
      obtain ⟨d, r, hd, hr', rfl, rfl⟩ := kvs_at hkv
      obtain ⟨l, hl1, ys, hy, hys⟩ := paired_at hL hr'
      have eT := Ex.new (o := .tup [.ref a, .ref r]) hT
      have hrb : (upd Ha T' (.tup [.ref a, .ref r])) r = some (.lst ys) := eT _ _ (ex _ _ (by rw [← hHL, upd_ne (ne_of hy h2 (by intro z; cases z))]; exact eM _ _ hy))
      have w1 := waits_take hd hl1
      refine ⟨T', _, rfl, SqT.of upd_same, rfl, _, _, rfl, _, _, rfl, rfl, rfl, _, rfl, _, .inl ⟨ys, SqL.of hrb, rfl⟩, ?_⟩
      have hxb := hx.keep fun a ys h => eT _ _ h
      cases hys with
      | nil =>
        refine iteF ⟨xs, ex.trans eT, eT _ _ hDa, by omega, ?_⟩
        rw [w1]
        show DoorsAt _ xs (_ ++ [])
        rw [List.append_nil]
        exact hxb
      | @cons y0 l0 ys ls0 _ _ =>
        refine iteT ⟨_, rfl, xs, eT _ _ hDa, len_lt (by omega), xs ++ [.ref a], (ex.trans eT).mut hD, upd_same, by rw [List.length_append, List.length_singleton]; omega, ?_⟩
        rw [w1]
        have tup : ∀ (b : Addr) (zs : List V), (upd Ha T' (.tup [.ref a, .ref r])) b = some (.tup zs) → (upd (upd Ha T' (.tup [.ref a, .ref r])) D (.lst (xs ++ [.ref a]))) b = some (.tup zs) := fun b zs hb => by
          rw [upd_ne (ne_of hb (eT _ _ hDa) (by intro z; cases z))]
          exact hb
        exact DoorsAt.snoc (tup _ _ (eT _ _ ha)) (hxb.keep tup)
    · rintro H' ⟨xs, ex, hDa, lx, hx⟩
      rw [lk] at hx
      rw [List.take_length, show ls.take ds.length = ls by rw [← hl, hl2, List.take_length]] at hx
      refine ⟨ex _ _ locked, q D xs _ ?_ (unlock_ex he (by rw [hHL]; exact ex)) ?_ (hx.keep fun a ys h => ?_)⟩
      · rw [← hHL, upd_ne De] at hD
        exact hD
      · rw [upd_ne De]; exact hDa
      · rw [upd_ne (ne_of h (ex _ _ locked) (by intro z; cases z))]
        exact h
end
end K19

set_option maxHeartbeats 2000000
namespace K19
open PySem PySem.Spec PyProof.Rows L2 Evl MyG
/-! ### a new post -/
theorem doors_take : ∀ {rs : List Row} {i k : Nat} {r : Row}, rs[i]? = some r → doorsFrom k (rs.take (i + 1)) = doorsFrom k (rs.take i) ++ [(((k + i : Nat) : Int), lo r), (((k + i : Nat) : Int), hi r)]
  | [], _, _, _, h => by simp at h
  | r0 :: rs, 0, k, r, h => by
    simp only [List.getElem?_cons_zero, Option.some.injEq] at h
    subst h
    rfl
  | r0 :: rs, i + 1, k, r, h => by
    simp only [List.getElem?_cons_succ] at h
    have ih := doors_take (k := k + 1) h
    show ((k : Int), lo r0) :: ((k : Int), hi r0) :: doorsFrom (k + 1) (rs.take (i + 1)) = ((k : Int), lo r0) :: ((k : Int), hi r0) :: doorsFrom (k + 1) (rs.take i) ++ _
    rw [ih, show k + 1 + i = k + (i + 1) by omega]
    rfl
theorem doors_bd : ∀ {rs : List Row} {k : Nat} {d : Door}, d ∈ doorsFrom k rs → (k : Int) ≤ d.1 ∧ d.1 < (k : Int) + rs.length
  | [], _, _, h => nomatch h
  | r :: rs, k, d, h => by
    rw [List.length_cons]
    rcases List.mem_cons.mp h with rfl | h
    · exact ⟨Int.le_refl _, by show (k : Int) < _; omega⟩
    · rcases List.mem_cons.mp h with rfl | h
      · exact ⟨Int.le_refl _, by show (k : Int) < _; omega⟩
      · have := doors_bd h
        omega
theorem lo_hi {r : Row} (h : r.1 ≠ r.2.1) : lo r ≠ hi r := by
  unfold lo hi
  split
  · exact h
  · exact fun e => h e.symm
theorem doors_nd : ∀ {rs : List Row} {k : Nat}, (∀ r ∈ rs, r.1 ≠ r.2.1) → (doorsFrom k rs).Nodup
  | [], _, _ => List.nodup_nil
  | r :: rs, k, h => by
    have ih := doors_nd (k := k + 1) fun r hr => h r (List.mem_cons_of_mem _ hr)
    have out : ∀ {x : Int}, ¬ ((k : Int), x) ∈ doorsFrom (k + 1) rs := fun hm => by
      have := (doors_bd hm).1
      dsimp only at this
      omega
    refine List.nodup_cons.mpr ⟨fun hm => ?_, List.nodup_cons.mpr ⟨out, ih⟩⟩
    rcases List.mem_cons.mp hm with e | hm
    · exact lo_hi (h r (List.mem_cons_self ..)) (congrArg Prod.snd e)
    · exact out hm
theorem doors_len : ∀ (rs : List Row) (k : Nat), (doorsFrom k rs).length = 2 * rs.length
  | [], _ => rfl
  | r :: rs, k => by
    show (doorsFrom (k + 1) rs).length + 1 + 1 = 2 * (rs.length + 1)
    rw [doors_len rs (k + 1)]
    omega
theorem doors_lo : ∀ {rs : List Row} {i k : Nat} {r : Row}, rs[i]? = some r → (doorsFrom k rs)[2 * i]? = some (((k + i : Nat) : Int), lo r)
  | [], _, _, _, h => by simp at h
  | r0 :: rs, 0, k, r, h => by
    simp only [List.getElem?_cons_zero, Option.some.injEq] at h
    subst h
    rfl
  | r0 :: rs, i + 1, k, r, h => by
    simp only [List.getElem?_cons_succ] at h
    have ih := doors_lo (k := k + 1) h
    rw [show k + 1 + i = k + (i + 1) by omega] at ih
    exact ih
theorem doors_hi : ∀ {rs : List Row} {i k : Nat} {r : Row}, rs[i]? = some r → (doorsFrom k rs)[2 * i + 1]? = some (((k + i : Nat) : Int), hi r)
  | [], _, _, _, h => by simp at h
  | r0 :: rs, 0, k, r, h => by
    simp only [List.getElem?_cons_zero, Option.some.injEq] at h
    subst h
    rfl
  | r0 :: rs, i + 1, k, r, h => by
    simp only [List.getElem?_cons_succ] at h
    have ih := doors_hi (k := k + 1) h
    rw [show k + 1 + i = k + (i + 1) by omega] at ih
    exact ih
/-- a dict of rows -/
def Part (S A : Addr) (B M : Hp) (D : Addr) (dd : List Door) (rs : List Addr) (ls : List (List Lt)) : Prop := M D = some (.dT (kvsOf dd rs)) ∧ rs.Nodup ∧ rs.length = dd.length ∧ LanesAt S A B M rs ls
theorem kvs_snoc : ∀ {dd : List Door} {rs : List Addr} {d : Door} {f : Addr}, rs.length = dd.length → ¬ d ∈ dd → putK (kvsOf dd rs) (keyD d) (.ref f) = kvsOf (dd ++ [d]) (rs ++ [f]) := by
  intro dd rs d f hl hn
  have no : (kvsOf dd rs).any (fun kv => decide (kv.1 = keyD d)) = false := by
    rw [List.any_eq_false]
    intro kv hk e
    obtain ⟨j, hj, e2⟩ := List.mem_iff_getElem.mp hk
    have z : (kvsOf dd rs)[j]? = some (kv.1, kv.2) := by rw [List.getElem?_eq_getElem hj, e2]
    obtain ⟨d', r', h1, _, h3, _⟩ := kvs_at z
    have e := of_decide_eq_true e
    rw [h3] at e
    exact hn (by rw [← keyD_inj e]; exact List.mem_of_getElem? h1)
  unfold putK
  rw [no]
  unfold kvsOf
  rw [List.zipWith_append hl.symm]
  rfl
theorem Part.snoc {S A : Addr} {B M H : Hp} {D f : Addr} {dd : List Door} {rs : List Addr} {d : Door} {ls : List (List Lt)} {ys : List V} {l : List Lt} (h : Part S A B M D dd rs ls) (eM : Ex M H) (hf : H f = none) (hn : ¬ d ∈ dd) (hl : LtsAt S A B ys l) :
    Part S A B (upd (upd M f (.lst ys)) D (.dT (putK (kvsOf dd rs) (keyD d) (.ref f)))) D (dd ++ [d]) (rs ++ [f]) (ls ++ [l]) := by
  obtain ⟨h1, h2, h3, h4⟩ := h
  have nf : ∀ {a : Addr} {o : HO}, M a = some o → a ≠ f := fun ha z => by
    have := eM _ _ ha
    rw [z, hf] at this
    cases this
  refine ⟨by rw [upd_same, kvs_snoc h3 hn], ?_, by rw [List.length_append, List.length_append, h3]; rfl, ?_⟩
  · rw [List.nodup_append]
    refine ⟨h2, by simp, fun a ha b hb => ?_⟩
    obtain rfl := List.mem_singleton.mp hb
    obtain ⟨j, hj⟩ := List.mem_iff_getElem?.mp ha
    obtain ⟨_, _, xs, hx, _⟩ := paired_at h4 hj
    exact nf hx
  · refine Paired.snoc (Paired.mapP h4 fun r l ⟨xs, hx, hy⟩ => ⟨xs, by rw [upd_ne (ne_of hx h1 (by intro z; cases z)), upd_ne (nf hx)]; exact hx, hy⟩) ⟨ys, ?_, hl⟩
    rw [upd_ne (nf h1).symm, upd_same]
def one (p : Addr) (o : HO) : Hp := upd (fun _ => none) p o
def newOf (d0 : List Door) (i : Nat) (r : Row) : Nat → List Door
  | 0 => d0
  | 1 => d0 ++ [((i : Int), lo r)]
  | _ => d0 ++ [((i : Int), lo r)] ++ [((i : Int), hi r)]
def sp_pinit (N C S A : Addr) : Sp := fun vs H Q _ => ∃ (dx p n : Addr) (B : Hp) (ps qs : List Int) (rs : List Row), vs = [.ref p, .ref n] ∧ H p = some (.ins C dx []) ∧ Ex B H ∧ B p = none ∧ NetAt N B n ps qs rs ∧ rs.length ≤ 12 ∧ (∀ r ∈ rs, r.1 ≠ r.2.1) ∧
  ∀ M' H', PostAt C S A B M' p n (doorsFrom 0 rs) ((doorsFrom 0 rs).map fun _ => []) → Chg (one p (.ins C dx [])) M' H H' → Q .non H'
section
variable {P : Program} {w : World} {K : PySem.W.Frag} {mg : Str → Option Value} {base : Heap}
theorem ok_pinit (T : Tx K mg) : FnOk P w K mg base CX0 4 T.a_Post___init__ T.d_Post___init__ ["self", "net"] (sp_pinit T.c_Net T.c_Post T.c_Say T.c_Agree) := by
  have G_Net_ends := ok_nends (P := P) (w := w) (base := base) T
  have G_Net_links := ok_nlinks (P := P) (w := w) (base := base) T
  refine T.F_Post___init__.ok sc_Post___init__ (fun vs H Q E h => ?_) (fun cdv A outer s H vs Q E hr h => ?_)
  · obtain ⟨_, _, _, _, _, _, _, rfl, _⟩ := h
    rfl
  · obtain ⟨dx, p, n, B, ps, qs, rs, rfl, hp, eB, pB, net, h12, hne, q⟩ := h
    refine ⟨_, (pss_cons (ps_fld (pv 0) (pv 1) rfl)
  (pss_one (ps_fld (pv 0) (pe_dc2G (kd := true) (own := [("link", 2), ("hall", 3)]) (vs1 := [3]) (g := (gName 2)) (tt := tYes) (g1 := (gName 3)) (tt1 := tYes) hr.units0 rfl sc_Post___init__.nd (pi_range1 rfl T.z_range (pa_cons (pe_callB (lenK (K := K) rfl) (by rfl) T.z_len (by decide +kernel) (pa_cons (pe_meth0 (pv 1) T.cl_Net T.me_Net_links G_Net_links (hr.mono (by decide)) T.b_Net_links .nil pass0) pa_nil)) pa_nil)) (blkOk_by (N := n_Post___init__) (sc := defScope s_Post___init__) (by decide +kernel)) (by decide) (fun _ _ _ _ _ => (pg_name (i := 2) sc_Post___init__.nd rfl (Or.inl rfl))) (fun _ _ _ _ _ => pts_nil) (fun _ _ _ _ _ => (iListK (K := K) rfl (pe_meth (pv 1) T.cl_Net T.me_Net_ends G_Net_ends (hr.mono (by decide)) T.b_Net_ends .nil pass0 (pa_cons (pv 2) pa_nil)))) (fun _ _ _ _ _ => (pg_name (i := 3) sc_Post___init__.nd rfl (Or.inl rfl))) (fun _ _ _ _ _ => pts_nil) (fun _ _ _ _ _ => (pe_tup (pa_cons (pv 2) (pa_cons (pv 3) pa_nil)))) (fun _ _ _ _ _ => (pe_lst pa_nil))) rfl))), ?_⟩
    obtain ⟨dxn, hx, r', ll, ts, hn, _⟩ := id net.ex
    -- self._net = net
    refine ⟨_, rfl, _, rfl, p, T.c_Post, dx, [], rfl, hp, T.cl_Post, T.n_Post__net, (by show 0 < 1000; decide), ?_⟩
    have e0 : Ex (one p (.ins T.c_Post dx [])) H := fun a o ha => by
      by_cases z : a = p
      · rw [z] at ha ⊢
        rw [show one p (.ins T.c_Post dx []) p = some (.ins T.c_Post dx []) from upd_same] at ha
        rw [hp, ha]
      · rw [show one p (.ins T.c_Post dx []) a = none from upd_ne z] at ha
        cases ha
    have c0 := Chg.put (o := .ins T.c_Post dx (putF "_net" (.ref n) [])) e0 (show one p (.ins T.c_Post dx []) p = some (.ins T.c_Post dx []) from upd_same)
    have eB1 : Ex B (upd H p (.ins T.c_Post dx (putF "_net" (.ref n) []))) := eB.mut pB
    have m1p : (upd (one p (.ins T.c_Post dx [])) p (.ins T.c_Post dx (putF "_net" (.ref n) []))) p = some (.ins T.c_Post dx (putF "_net" (.ref n) [])) := upd_same
    have m1B : ∀ a o, B a = some o → (upd (one p (.ins T.c_Post dx [])) p (.ins T.c_Post dx (putF "_net" (.ref n) []))) a = none := fun a o ha => by
      have z : a ≠ p := fun z => by rw [z, pB] at ha; cases ha
      rw [upd_ne z]
      exact upd_ne z
    generalize upd (one p (.ins T.c_Post dx [])) p (.ins T.c_Post dx (putF "_net" (.ref n) [])) = M1 at c0 m1p m1B
    dsimp only
    generalize upd H p (.ins T.c_Post dx (putF "_net" (.ref n) [])) = H1 at c0 eB1 ⊢
    -- the links, the new dict
    refine ⟨_, rfl, n, dxn, _, rfl, eB1 _ _ hn, nf_no _ _ _ (by decide +kernel) (by decide +kernel) (by decide +kernel), n, B, ps, qs, rs, rfl, eB1, net, fun pl H2 tl hpl hrl eH2 => ?_⟩
    subst eH2
    have e2 := Ex.new (o := .lst tl) hpl
    refine ⟨pl, _, rfl, .inl (SqL.of upd_same), (tl.length : Int), rfl, by have := hrl.len; omega, by have := hrl.len; omega, fun D hD => ?_⟩
    have lt := hrl.len
    have c2 := (Chg.ext c0.now e2).trans (Chg.new (o := .dT []) (c0.now.trans e2) hD)
    generalize (upd H1 pl (.lst tl)) = H2 at c2 hD e2
    have DM : M1 D = none := fresh_back (c0.now.trans e2) hD
    have Dp : D ≠ p := fun z => by rw [z, m1p] at DM; cases DM
    have BD : ∀ a o, B a = some o → a ≠ D := fun a o ha z => by
      have := e2 _ _ (eB1 _ _ ha)
      rw [z, hD] at this
      cases this
    have stay : ∀ {M' H' : Hp}, Chg M1 M' H1 H' → Ex B H' := fun ch a o ha => ch.frame a o (m1B a o ha) (eB1 a o ha)
    refine wlk_it (walk_range (lo := 0) (n := ((tl.length : Int) - 0).toNat)) (fun i H' => ∃ (M' : Hp) (rr : List Addr), Chg M1 M' H1 H' ∧ M' p = some (.ins T.c_Post dx (putF "_net" (.ref n) [])) ∧ Part T.c_Say T.c_Agree B M' D (doorsFrom 0 (rs.take i)) rr ((doorsFrom 0 (rs.take i)).map fun _ => [])) ⟨_, [], c2, by rw [upd_ne Dp.symm]; exact m1p, upd_same, List.nodup_nil, rfl, .nil⟩ (fun _ _ _ _ => True.intro) ?_ ?_
    · rintro i x Ha Hb hii ⟨M', rr, ch, mp, part⟩ ⟨rfl, rfl⟩
      have hi2 : i < rs.length := by omega
      have hr := List.getElem?_eq_getElem hi2
      generalize rs[i] = r at hr
      have rne := hne r (List.mem_of_getElem? hr)
      have eBa := stay ch
      refine ⟨rfl, un_yes (iteT ?_)⟩
      refine ⟨_, rfl, n, dxn, _, rfl, eBa _ _ hn, nf_no _ _ _ (by decide +kernel) (by decide +kernel) (by decide +kernel), _, rfl, n, B, ps, qs, rs, i, r, by show [V.ref n, V.int (0 + (i : Int))] = _; rw [Int.zero_add], eBa, net, hr, h12, fun z H3 hz e3 h3z => ⟨z, rfl, ⟨_, SqL.of h3z⟩, ?_⟩⟩
      have zM : M' z = none := fresh_back ch.now hz
      have dn : (doorsFrom 0 (rs.take i)).length ≤ 24 := by rw [doors_len, List.length_take]; omega
      have below : ∀ {v : Int}, ¬ ((i : Int), v) ∈ doorsFrom 0 (rs.take i) := fun hm => by
        have := (doors_bd hm).2
        rw [List.length_take] at this
        dsimp only at this
        omega
      refine wlk_it (walk_list (xs := [.int (lo r), .int (hi r)])) (fun j H' => ∃ (M2 : Hp) (rr : List Addr), Chg M1 M2 H1 H' ∧ M2 p = some (.ins T.c_Post dx (putF "_net" (.ref n) [])) ∧ M2 z = none ∧ H' z = some (.lst [.int (lo r), .int (hi r)]) ∧ Part T.c_Say T.c_Agree B M2 D (newOf (doorsFrom 0 (rs.take i)) i r j) rr ((newOf (doorsFrom 0 (rs.take i)) i r j).map fun _ => []))
        ⟨M', rr, ch.trans (Chg.ext ch.now e3), mp, zM, h3z, part⟩ (fun j H' _ ⟨_, _, _, _, _, hz, _⟩ => SqL.of hz) ?_ ?_
      · rintro j x Hc Hd hj ⟨M2, r2, c2', m2p, z2, h2z, part2⟩ ⟨rfl, hx⟩
        have step : ∀ {v : Int} {dd : List Door} {Nx : Hp → Prop}, x = .int v → Part T.c_Say T.c_Agree B M2 D dd r2 (dd.map fun _ => []) → ¬ ((i : Int), v) ∈ dd → dd.length ≤ 30 →
            (∀ M3 H4 r3, Chg M1 M3 H1 H4 → M3 p = some (.ins T.c_Post dx (putF "_net" (.ref n) [])) → M3 z = none → H4 z = some (.lst [.int (lo r), .int (hi r)]) → Part T.c_Say T.c_Agree B M3 D (dd ++ [((i : Int), v)]) r3 ((dd ++ [((i : Int), v)]).map fun _ => []) → Nx H4) →
            dSto D (tTup (tCons (tVar 2) (tCons (tVar 3) tNil))) (tLst tNil) Nx [some (.ref p), some (.ref n), some (.int (0 + (i : Int))), some x] Hd := by
          intro v dd Nx hv part2 hn2 few fin
          subst hv
          refine ⟨_, rfl, _, rfl, by show 2 ≤ sizeLine; decide, fun t ht => ⟨Nat.zero_le _, fun f hf => ?_⟩⟩
          have et := Ex.new (o := .tup [.int (0 + (i : Int)), .int v]) ht
          have c3 := c2'.trans (Chg.ext c2'.now et)
          have c4 := c3.trans (Chg.new (o := .lst []) c3.now hf)
          have nf : ∀ {a : Addr} {o : HO}, M2 a = some o → a ≠ f := fun ha z => by
            have := c3.now _ _ ha
            rw [z, hf] at this
            cases this
          have hD4 : (upd M2 f (.lst [])) D = some (.dT (kvsOf dd r2)) := by rw [upd_ne (nf part2.1)]; exact part2.1
          have tf : t ≠ f := fun z => by rw [← z, upd_same] at hf; cases hf
          have key : (upd (upd Hd t (.tup [.int (0 + (i : Int)), .int v])) f (.lst [])) t = some (.tup ((keyD ((i : Int), v)).map kV)) := by
            rw [upd_ne tf, upd_same, Int.zero_add]
            rfl
          refine ⟨_, DPut.t (k := keyD ((i : Int), v)) (c4.now _ _ hD4) key (len_lt (by rw [kvs_len _ _ part2.2.2.1]; omega)), ?_⟩
          have Dz : D ≠ z := fun e => by rw [← e, part2.1] at z2; cases z2
          have fz : z ≠ f := fun e => by
            have : (upd Hd t (.tup [.int (0 + (i : Int)), .int v])) z = _ := et _ _ h2z
            rw [e, hf] at this
            cases this
          refine fin _ _ _ (c4.trans (Chg.put c4.now hD4)) ?_ ?_ ?_ (by rw [List.map_append]; exact part2.snoc c3.now hf hn2 .nil)
          · rw [upd_ne Dp.symm, upd_ne (nf m2p)]; exact m2p
          · rw [upd_ne Dz.symm, upd_ne fz]; exact z2
          · rw [upd_ne Dz.symm, upd_ne fz]; exact et _ _ h2z
        have hj2 : j = 0 ∨ j = 1 := by
          have : j < 2 := hj
          omega
        refine ⟨rfl, un_yes (iteT ?_)⟩
        rcases hj2 with rfl | rfl
        · have hx : some (V.int (lo r)) = some x := hx
          exact step (Option.some.inj hx).symm part2 below (show (doorsFrom 0 (rs.take i)).length ≤ 30 by omega) fun M3 H4 r3 a b c d e => ⟨M3, r3, a, b, c, d, e⟩
        · have hx : some (V.int (hi r)) = some x := hx
          refine step (Option.some.inj hx).symm part2 (fun hm => ?_) (by show (doorsFrom 0 (rs.take i) ++ [((i : Int), lo r)]).length ≤ 30; rw [List.length_append, List.length_singleton]; omega) fun M3 H4 r3 a b c d e => ⟨M3, r3, a, b, c, d, e⟩
          rcases List.mem_append.mp hm with hm | hm
          · exact below hm
          · exact lo_hi rne (congrArg Prod.snd (List.mem_singleton.mp hm)).symm
      · rintro H' ⟨M2, r2, c2', m2p, z2, h2z, part2⟩
        refine ⟨M2, r2, c2', m2p, ?_⟩
        have e := doors_take (k := 0) hr
        rw [Nat.zero_add] at e
        rw [e, show ([((i : Int), lo r), ((i : Int), hi r)] : List Door) = [((i : Int), lo r)] ++ [((i : Int), hi r)] from rfl, ← List.append_assoc]
        exact part2
    · rintro H' ⟨M', rr, ch, mp, part⟩
      rw [show ((tl.length : Int) - 0).toNat = rs.length by omega, List.take_length] at part
      refine ⟨_, rfl, p, T.c_Post, dx, _, rfl, ch.now _ _ mp, T.cl_Post, T.n_Post__rows, (by show 1 < 1000; decide), ?_⟩
      have cf := (c0.trans ch).trans (Chg.put (o := .ins T.c_Post dx (pf n D)) ch.now mp)
      refine q _ _ ⟨⟨dx, D, rr, upd_same, ?_, part.2.1, part.2.2.1, ?_⟩, doors_nd hne⟩ cf
      · rw [upd_ne Dp]; exact part.1
      · exact Paired.mapP part.2.2.2 fun r l ⟨xs, hx, hy⟩ => ⟨xs, by rw [upd_ne (ne_of hx mp (by intro z; cases z))]; exact hx, hy⟩
end
end K19

set_option maxHeartbeats 2000000
namespace K19
open PySem PySem.Spec PyProof.Rows L2 Evl MyG
/-! ### a twin -/
def emp : Hp := fun _ => none
theorem ex_emp {H : Hp} : Ex emp H := fun _ _ h => nomatch h
/-- two regions together -/
def un (M N : Hp) : Hp := fun a => (N a).or (M a)
theorem un_r {M N : Hp} {a : Addr} {o : HO} (h : N a = some o) : un M N a = some o := by
  unfold un
  rw [h]
  rfl
theorem un_l {M N : Hp} {a : Addr} (h : N a = none) : un M N a = M a := by
  unfold un
  rw [h]
  rfl
theorem Chg.un {M N H H1 H2 : Hp} (a : Chg emp M H H1) (b : Chg emp N H1 H2) : Chg emp (un M N) H H2 := by
  refine ⟨fun x o hx => ?_, fun x o _ hx => b.frame x o rfl (a.frame x o rfl hx), fun x hx => ?_⟩
  · cases hn : N x with
    | some o' =>
      rw [un_r hn] at hx
      rw [← hx]
      exact b.now x o' hn
    | none =>
      rw [un_l hn] at hx
      exact b.frame x o rfl (a.now x o hx)
  · right
    cases hn : N x with
    | some o' =>
      rcases b.fresh x (by rw [hn]; exact fun q => by cases q) with k | k
      · exact absurd rfl k
      · cases h : H x with
        | none => rfl
        | some o =>
          have := a.frame x o rfl h
          rw [k] at this
          cases this
    | none =>
      rw [un_l hn] at hx
      rcases a.fresh x hx with k | k
      · exact absurd rfl k
      · exact k
theorem Chg.unlock {N H H' : Hp} {e : Addr} {od : Obj} {u : HO} (he : H e = some u) (c : Chg emp N (upd H e (.frz od u)) H') : Chg emp N H (upd H' e u) := by
  have hN : N e = none := by
    cases q : N e with
    | none => rfl
    | some o =>
      rcases c.fresh e (by rw [q]; exact fun z => by cases z) with k | k
      · exact absurd rfl k
      · rw [upd_same] at k; cases k
  refine ⟨fun a o ha => ?_, fun a o _ ha => unlock_ex he (fun x y hx => c.frame x y rfl hx) a o ha, fun a ha => ?_⟩
  · rw [upd_ne fun z => by rw [z, hN] at ha; cases ha]
    exact c.now a o ha
  · rcases c.fresh a ha with k | k
    · exact absurd rfl k
    · right
      by_cases z : a = e
      · rw [z, hN] at ha
        exact absurd rfl ha
      · rw [upd_ne z] at k
        exact k
theorem not_take {ds : List Door} (nd : ds.Nodup) {i : Nat} {d : Door} (h : ds[i]? = some d) : ¬ d ∈ ds.take i := fun hm => by
  obtain ⟨j, hj⟩ := List.mem_iff_getElem?.mp hm
  have hl := (List.getElem?_eq_some_iff.mp hj).1
  rw [List.length_take] at hl
  rw [List.getElem?_take_of_lt (by omega)] at hj
  have := nd_ix nd hj h
  omega
theorem take_snoc {α : Type} {l : List α} {i : Nat} {x : α} (h : l[i]? = some x) : l.take (i + 1) = l.take i ++ [x] := by
  rw [List.take_add_one, h]
  rfl
def sp_ptwin (N C S A : Addr) : Sp := fun vs H Q _ => ∃ (p n : Addr) (B M : Hp) (ps qs : List Int) (rs : List Row) (ds : List Door) (ls : List (List Lt)), vs = [.ref p] ∧ PostOk N C S A B M H p n ps qs rs ds ls ∧ ds.length ≤ 1000 ∧ (∀ r ∈ rs, r.1 ≠ r.2.1) ∧
  ∀ t M' H', PostAt C S A B M' t n ds ls → Chg emp M' H H' → Q (.ref t) H'
section
variable {P : Program} {w : World} {K : PySem.W.Frag} {mg : Str → Option Value} {base : Heap}
theorem ok_ptwin (T : Tx K mg) : FnOk P w K mg base CX0 6 T.a_Post_twin T.d_Post_twin ["self"] (sp_ptwin T.c_Net T.c_Post T.c_Say T.c_Agree) := by
  have G_Post___init__ := ok_pinit (P := P) (w := w) (base := base) T
  refine T.F_Post_twin.ok sc_Post_twin (fun vs H Q E h => ?_) (fun cdv A outer s H vs Q E hr h => ?_)
  · obtain ⟨_, _, _, _, _, _, _, _, _, rfl, _⟩ := h
    rfl
  · obtain ⟨p, n, B, M, ps, qs, rs, ds, ls, rfl, ok, dl, hne, q⟩ := h
    refine ⟨_, (pss_cons (ps_set (i := 1) sc_Post_twin.nd rfl (Or.inl rfl) (pe_make T.m_Post G_Post___init__ (hr.mono (by decide)) (by rfl) T.g_Post T.b_Post___init__ .nil pass0 (pa_cons (fldK (K := K) rfl (pv 0) rfl) pa_nil)))
  (pss_cons (ps_fld (pv 1) (pe_lock (pe_dcG (kd := true) (own := [("door", 2), ("row", 3)]) (g := (gTup K 2 (gCons (gName 2) (gCons (gName 3) gNil)))) (tt := tYes) hr.units0 rfl sc_Post_twin.nd (pi_itemsT (fldK (K := K) rfl (pv 0) rfl)) (blkOk_by (N := n_Post_twin) (sc := defScope s_Post_twin) (by decide +kernel)) (fun _ _ _ _ _ => (pg_tup rfl (pgs_cons (pg_name (i := 2) sc_Post_twin.nd rfl (Or.inl rfl)) (pgs_cons (pg_name (i := 3) sc_Post_twin.nd rfl (Or.inl rfl)) pgs_nil)))) (fun _ _ _ _ _ => pts_nil) (fun _ _ _ _ _ => (pv 2)) (fun _ _ _ _ _ => (pe_callTy (listK (K := K) rfl) (by rfl) T.z_list (by decide +kernel) (pa_cons (pv 3) pa_nil))))) rfl)
  (pss_one (ps_ret (pv 1))))), ?_⟩
    obtain ⟨dx, e, rw_, h1, h2, nd, hl, hL⟩ := ok.post.ex
    refine ⟨_, rfl, p, T.c_Post, dx, _, _, rfl, ok.eM _ _ h1, T.cl_Post, T.n_Post__net, pf_n _ _, fun x dx' hx hdx ne => ?_⟩
    have xB : B x = none := fresh_back ok.eB hx
    have eD := Ex.new (o := .own x) hdx
    have hx2 : (upd H dx' (.own x)) x = none := by
      have : x ≠ dx' := by first | exact ne | exact fun z => ne z.symm
      rw [upd_ne this]; exact hx
    have eX := Ex.new (o := .ins T.c_Post dx' []) hx2
    have c0 : Chg emp (one x (.ins T.c_Post dx' [])) H (upd (upd H dx' (.own x)) x (.ins T.c_Post dx' [])) := (Chg.ext ex_emp eD).trans (Chg.new ex_emp hx2)
    refine ⟨dx', x, n, B, ps, qs, rs, rfl, upd_same, ok.eB.trans (eD.trans eX), xB, ok.net, ok.h12, hne, fun M1 H1 po1 ch1 => ⟨rfl, ?_⟩⟩
    have cA := c0.trans ch1
    generalize upd (upd H dx' (.own x)) x (.ins T.c_Post dx' []) = Hx at ch1 c0
    obtain ⟨dx1, e1, rw1, g1, _⟩ := po1.ex
    have stay : Ex H H1 := fun a o ha => cA.frame a o rfl ha
    have m1 := ok.eM.trans stay
    have he := m1 _ _ h2
    have pe := ne_of h1 h2 (by intro z; cases z)
    have hl2 : rw_.length = ls.length := Paired.length hL
    have lk : (kvsOf ds rw_).length = ds.length := kvs_len _ _ hl
    have hx1 := cA.now _ _ g1
    have xe : x ≠ e := fun z => by rw [z, he] at hx1; cases hx1
    -- other._rows = {..}
    refine ⟨e, _, he, True.intro, fun od => ?_⟩
    refine ⟨_, rfl, p, T.c_Post, dx, _, _, rfl, by rw [upd_ne pe]; exact m1 _ _ h1, T.cl_Post, T.n_Post__rows, pf_d _ _, e, od, _, rfl, upd_same, fun D hD => ?_⟩
    generalize hHL : upd H1 e (.frz od (.dT (kvsOf ds rw_))) = HL at hD
    have locked : HL e = some (.frz od (.dT (kvsOf ds rw_))) := by rw [← hHL]; exact upd_same
    refine wlk_it walk_itemsT (fun i H' => ∃ (N : Hp) (rr : List Addr), Chg emp N HL H' ∧ Part T.c_Say T.c_Agree B N D (ds.take i) rr (ls.take i)) ⟨_, [], Chg.new ex_emp hD, upd_same, List.nodup_nil, rfl, .nil⟩ (fun i H' _ ⟨_, _, c, _⟩ => c.frame _ _ rfl locked) ?_ ?_
    · rintro i y Ha Hb hi ⟨N, rr, ch, part⟩ ⟨T', k, v, a, hkv, ha, rfl, hT, rfl⟩
      obtain ⟨d, r, hd, hr', rfl, rfl⟩ := kvs_at hkv
      obtain ⟨l, hl1, ys, hy, hys⟩ := paired_at hL hr'
      have eT := Ex.new (o := .tup [.ref a, .ref r]) hT
      have c1 := ch.trans (Chg.ext ch.now eT)
      have hrb : (upd Ha T' (.tup [.ref a, .ref r])) r = some (.lst ys) := c1.frame _ _ rfl (by rw [← hHL, upd_ne (ne_of hy h2 (by intro z; cases z))]; exact m1 _ _ hy)
      refine ⟨T', _, rfl, SqT.of upd_same, rfl, _, _, rfl, _, _, rfl, rfl, rfl, un_yes (iteT ?_)⟩
      refine ⟨_, rfl, _, rfl, r, ys, rfl, .inl (SqL.of hrb), fun f hf => ?_⟩
      have c2 := c1.trans (Chg.new (o := .lst ys) c1.now hf)
      have nf : ∀ {a : Addr} {o : HO}, N a = some o → a ≠ f := fun ha z => by
        have := c1.now _ _ ha
        rw [z, hf] at this
        cases this
      have hD2 : (upd N f (.lst ys)) D = some (.dT (kvsOf (ds.take i) rr)) := by rw [upd_ne (nf part.1)]; exact part.1
      have key : (upd (upd Ha T' (.tup [.ref a, .ref r])) f (.lst ys)) a = some (.tup ((keyD d).map kV)) := (Ex.new hf) _ _ (eT _ _ ha)
      refine ⟨_, DPut.t (k := keyD d) (c2.now _ _ hD2) key (len_lt (by rw [kvs_len _ _ part.2.2.1, List.length_take]; omega)), _, rr ++ [f], c2.trans (Chg.put c2.now hD2), ?_⟩
      rw [take_snoc hd, take_snoc hl1]
      exact part.snoc c1.now hf (not_take ok.post.nd hd) hys
    · rintro H' ⟨N, rr, ch, part⟩
      rw [lk, List.take_length, show ls.take ds.length = ls by rw [← hl, hl2, List.take_length]] at part
      refine ⟨ch.frame _ _ rfl locked, ?_⟩
      rw [← hHL] at ch
      have cu := cA.un (ch.unlock he)
      have hxN : N x = none := by
        cases z : N x with
        | none => rfl
        | some o =>
          rcases ch.fresh x (by rw [z]; exact fun q => by cases q) with k | k
          · exact absurd rfl k
          · rw [upd_ne xe, hx1] at k
            cases k
      have hxU : (un M1 N) x = some (.ins T.c_Post dx1 (pf n e1)) := (un_l hxN).trans g1
      refine ⟨_, rfl, x, T.c_Post, dx1, _, rfl, cu.now _ _ hxU, T.cl_Post, T.n_Post__rows, (by show 2 < 1000; decide), _, rfl, ?_⟩
      have pfe : putF "_rows" (.ref D) (pf n e1) = pf n D := by
        unfold pf
        rfl
      rw [pfe]
      refine q x _ _ ⟨⟨dx1, D, rr, upd_same, ?_, part.2.1, part.2.2.1, ?_⟩, ok.post.nd⟩ (cu.trans (Chg.put cu.now hxU))
      · have : D ≠ x := fun z => by rw [← z, part.1] at hxN; cases hxN
        rw [upd_ne this]
        exact un_r part.1
      · exact Paired.mapP part.2.2.2 fun r l ⟨xs, hx, hy⟩ => ⟨xs, by
          have : r ≠ x := fun z => by rw [← z, hx] at hxN; cases hxN
          rw [upd_ne this]
          exact un_r hx, hy⟩
end
end K19

set_option maxHeartbeats 2000000
namespace K19
open PySem PySem.Spec PyProof.Rows L2 Evl MyG
/-! ### what all letters tell -/
def lanesOf (ls : List (List Lt)) : List (List Lt) := ls.filter fun l => !l.isEmpty
theorem waits_ix : ∀ {ds : List Door} {ls : List (List Lt)} {i : Nat} {d : Door}, (waits ds ls)[i]? = some d → ∃ (k : Nat) (l : List Lt), ds[k]? = some d ∧ ls[k]? = some l ∧ (lanesOf ls)[i]? = some l
  | [], _, _, _, h => by simp [waits] at h
  | _ :: _, [], _, _, h => by simp [waits] at h
  | d0 :: ds, l0 :: ls, i, d, h => by
    cases he : l0.isEmpty with
    | true =>
      have h : (if l0.isEmpty then waits ds ls else d0 :: waits ds ls)[i]? = some d := h
      rw [he, if_pos rfl] at h
      obtain ⟨k, l, h1, h2, h3⟩ := waits_ix h
      refine ⟨k + 1, l, h1, h2, ?_⟩
      unfold lanesOf
      rw [List.filter_cons_of_neg (by rw [he]; decide)]
      exact h3
    | false =>
      have h : (if l0.isEmpty then waits ds ls else d0 :: waits ds ls)[i]? = some d := h
      rw [he, if_neg (by decide)] at h
      have e : lanesOf (l0 :: ls) = l0 :: lanesOf ls := by
        unfold lanesOf
        rw [List.filter_cons_of_pos (by rw [he]; decide)]
      cases i with
      | zero => exact ⟨0, l0, h, rfl, by rw [e]; rfl⟩
      | succ j =>
        obtain ⟨k, l, h1, h2, h3⟩ := waits_ix (i := j) h
        exact ⟨k + 1, l, h1, h2, by rw [e]; exact h3⟩
theorem waits_mem : ∀ {ds : List Door} {ls : List (List Lt)} {d : Door}, d ∈ waits ds ls → d ∈ ds
  | [], _, _, h => by simp [waits] at h
  | _ :: _, [], _, h => by simp [waits] at h
  | d0 :: ds, l0 :: ls, d, h => by
    have h : d ∈ (if l0.isEmpty then waits ds ls else d0 :: waits ds ls) := h
    split at h
    · exact List.mem_cons_of_mem _ (waits_mem h)
    · rcases List.mem_cons.mp h with rfl | h
      · exact List.mem_cons_self ..
      · exact List.mem_cons_of_mem _ (waits_mem h)
theorem waits_nd : ∀ {ds : List Door} {ls : List (List Lt)}, ds.Nodup → (waits ds ls).Nodup
  | [], _, _ => by simp [waits]
  | _ :: _, [], _ => by simp [waits]
  | d0 :: ds, l0 :: ls, h => by
    rw [List.nodup_cons] at h
    show (if l0.isEmpty then waits ds ls else d0 :: waits ds ls).Nodup
    split
    · exact waits_nd h.2
    · exact List.nodup_cons.mpr ⟨fun z => h.1 (waits_mem z), waits_nd h.2⟩
theorem waits_len : ∀ {ds : List Door} {ls : List (List Lt)}, (waits ds ls).length ≤ ds.length
  | [], _ => by simp [waits]
  | _ :: _, [] => by simp [waits]
  | d0 :: ds, l0 :: ls => by
    show (if l0.isEmpty then waits ds ls else d0 :: waits ds ls).length ≤ _
    have := waits_len (ds := ds) (ls := ls)
    split <;> simp only [List.length_cons] <;> omega
/-- tuples told, new since H0 -/
def Told1 (H0 H : Hp) : List V → List Lt → Prop := Paired fun (x : V) (l : Lt) => ∃ a, x = .ref a ∧ H0 a = none ∧ H a = some (.tup l.vs)
def ToldR (H0 H : Hp) (D : Addr) : List Addr → List (List Lt) → Prop := Paired fun (r : Addr) (l : List Lt) => H0 r = none ∧ r ≠ D ∧ ∃ xs, H r = some (.lst xs) ∧ Told1 H0 H xs l
theorem Told1.ext {H0 H H' : Hp} (e : ∀ a ys, H a = some (.tup ys) → H' a = some (.tup ys)) {xs : List V} {l : List Lt} (h : Told1 H0 H xs l) : Told1 H0 H' xs l := Paired.mapP h fun _ _ ⟨a, h1, h2, h3⟩ => ⟨a, h1, h2, e _ _ h3⟩
theorem ToldR.keep {H0 H H' : Hp} {D : Addr} (e : ∀ a o, a ≠ D → H a = some o → H' a = some o) (ht : ∀ ys, H D ≠ some (.tup ys)) {rr : List Addr} {ls : List (List Lt)} (h : ToldR H0 H D rr ls) : ToldR H0 H' D rr ls :=
  Paired.mapP h fun _ _ ⟨h1, h2, xs, h3, h4⟩ => ⟨h1, h2, xs, e _ _ h2 h3, h4.ext fun a ys ha => e _ _ (fun z => ht ys (by rw [← z]; exact ha)) ha⟩
def sp_prows (C S A : Addr) : Sp := fun vs H Q _ => ∃ (p n : Addr) (B M : Hp) (ds : List Door) (ls : List (List Lt)), vs = [.ref p] ∧ Ex B H ∧ Ex M H ∧ PostAt C S A B M p n ds ls ∧ ds.length ≤ 1000 ∧ (∀ l ∈ ls, l.length ≤ 10000) ∧
  ∀ D rr H', H D = none → Ex H H' → H' D = some (.dT (kvsOf (waits ds ls) rr)) → rr.Nodup → rr.length = (waits ds ls).length → ToldR H H' D rr ((lanesOf ls).take rr.length) → Q (.ref D) H'
section
variable {P : Program} {w : World} {K : PySem.W.Frag} {mg : Str → Option Value} {base : Heap}
theorem ok_prows (T : Tx K mg) : FnOk P w K mg base CX0 3 T.a_Post_rows T.d_Post_rows ["self"] (sp_prows T.c_Post T.c_Say T.c_Agree) := by
  have G_Post_waiting := ok_pwaiting (P := P) (w := w) (base := base) T
  have G_Say_told := ok_toldS (P := P) (w := w) (base := base) T
  have G_Agree_told := ok_toldA (P := P) (w := w) (base := base) T
  refine T.F_Post_rows.ok sc_Post_rows (fun vs H Q E h => ?_) (fun cdv A outer s H vs Q E hr h => ?_)
  · obtain ⟨_, _, _, _, _, _, rfl, _⟩ := h
    rfl
  · obtain ⟨p, n, B, M, ds, ls, rfl, eB, eM, po, dl, few, q⟩ := h
    refine ⟨_, (pss_one (ps_ret (pe_dcG (kd := true) (own := [("door", 1)]) (g := (gName 1)) (tt := tYes) hr.units0 rfl sc_Post_rows.nd (iListK (K := K) rfl (pe_meth0 (pv 0) T.cl_Post T.me_Post_waiting G_Post_waiting (hr.mono (by decide)) T.b_Post_waiting .nil pass0)) (blkOk_by (N := n_Post_rows) (sc := defScope s_Post_rows) (by decide +kernel)) (fun _ _ _ _ _ => (pg_name (i := 1) sc_Post_rows.nd rfl (Or.inl rfl))) (fun _ _ _ _ _ => pts_nil) (fun _ _ _ _ _ => (pv 1)) (fun _ _ _ _ _ => (pe_lc (own := [("letter", 2)]) (g := (gName 2)) (tt := tYes) rfl sc_Post_rows.nd (iListK (K := K) rfl (pe_dget (Nat.lt_of_le_of_lt (Nat.add_le_add_left (by decide) _) hr.units) (fldK (K := K) rfl (pv 0) rfl) (pv 1) (fun _ _ => rfl))) (blkOk_by (N := n_Post_rows) (sc := ({ kind := .function, names := [(".0", .local), ("door", .local), ("self", .cell)], isGenerator := false, isCoroutine := false } : Scope)) (by decide +kernel)) (fun _ _ _ _ _ => (pg_name (i := 2) sc_Post_rows.nd rfl (Or.inl rfl))) (fun _ _ _ _ _ => pts_nil) (fun _ _ _ _ _ => (pe_either (pe_meth0 (pv 2) T.cl_Say T.me_Say_told G_Say_told (hr.mono (by decide)) T.b_Say_told .nil pass0) (pe_meth0 (pv 2) T.cl_Agree T.me_Agree_told G_Agree_told (hr.mono (by decide)) T.b_Agree_told .nil pass0)))))))), ?_⟩
    obtain ⟨dx, e, rs, h1, h2, nd, hl, hL⟩ := po.ex
    refine ⟨_, rfl, p, dx, _, rfl, eM _ _ h1, pf_no _ _ (by decide +kernel) (by decide +kernel), p, n, B, M, ds, ls, rfl, eM, po, dl, fun W ws H1 hW e1 hWl hws => ?_⟩
    have lws : ws.length = (waits ds ls).length := Paired.length hws
    refine ⟨W, rfl, ⟨_, SqL.of hWl⟩, fun D hD => ?_⟩
    have m1 := eM.trans e1
    have lnd := waits_nd (ls := ls) po.nd
    have llen := waits_len (ds := ds) (ls := ls)
    refine wlk_it (walk_list (xs := ws)) (fun i H' => ∃ rr : List Addr, Ex H1 H' ∧ H' D = some (.dT (kvsOf ((waits ds ls).take i) rr)) ∧ rr.Nodup ∧ rr.length = ((waits ds ls).take i).length ∧ ToldR H1 H' D rr ((lanesOf ls).take i)) ⟨[], Ex.new hD, upd_same, List.nodup_nil, rfl, .nil⟩ (fun i H' _ ⟨_, ex, _⟩ => SqL.of (ex _ _ hWl)) ?_ ?_
    · rintro i x Ha Ha' hi ⟨rr, ex, hDa, rnd, rl, tr⟩ ⟨rfl, hx⟩
      obtain ⟨d, hd, a, rfl, ha⟩ := paired_at hws hx
      obtain ⟨k, l, hdk, hlk, hlw⟩ := waits_ix hd
      obtain ⟨r, xs, ⟨dx', e', kvs', g1, g2, g3⟩, hM, hxs, _⟩ := po.row hdk hlk
      have ma := m1.trans ex
      have aa := ex _ _ ha
      refine ⟨rfl, un_yes (iteT ⟨_, rfl, ?_⟩)⟩
      refine ⟨_, rfl, p, T.c_Post, dx', _, _, rfl, ma _ _ g1, T.cl_Post, T.n_Post__rows, pf_d _ _, _, rfl, e', .ref r, rfl, dget_door (ma _ _ g2) aa g3, r, rfl, ⟨_, SqL.of (ma _ _ hM)⟩, fun L hL' => ?_⟩
      have lxs : xs.length = l.length := Paired.length hxs
      have lb := few l (List.mem_of_getElem? hlk)
      refine lc_it (walk_list (xs := xs)) (fun j H' => ∃ ts, Ex Ha' H' ∧ H' L = some (.lst ts) ∧ ts.length ≤ j ∧ Told1 H1 H' ts (l.take j)) ⟨[], Ex.new hL', upd_same, Nat.zero_le _, .nil⟩ (fun j H' _ ⟨_, ex2, _⟩ => SqL.of (ex2 _ _ (ma _ _ hM))) ?_ ?_
      · rintro j y Hb Hb' hj ⟨ts, ex2, hLb, lts, tt⟩ ⟨rfl, hy⟩
        obtain ⟨lt, hlt, b, rfl, hb⟩ := paired_at hxs hy
        have hb' := hb.ext (((eB.trans e1).trans ex).trans ex2)
        have fin : ∀ t Hc, Hb' t = none → Ex Hb' Hc → Hc t = some (.tup lt.vs) → ∃ acc, Hc L = some (.lst acc) ∧ acc.length < sizeLine ∧ ∃ ts, Ex Ha' (upd Hc L (.lst (acc ++ [.ref t]))) ∧ (upd Hc L (.lst (acc ++ [.ref t]))) L = some (.lst ts) ∧ ts.length ≤ j + 1 ∧ Told1 H1 (upd Hc L (.lst (acc ++ [.ref t]))) ts (l.take (j + 1)) := fun t Hc ht et h3 => by
          have tn : ∀ (a : Addr) (ys : List V), Hc a = some (.tup ys) → (upd Hc L (.lst (ts ++ [.ref t]))) a = some (.tup ys) := fun a ys h => by
            rw [upd_ne (ne_of h (et _ _ hLb) (by intro z; cases z))]
            exact h
          refine ⟨ts, et _ _ hLb, len_lt (by omega), ts ++ [.ref t], (ex2.trans et).mut hL', upd_same, by rw [List.length_append, List.length_singleton]; omega, ?_⟩
          rw [take_snoc hlt]
          refine Paired.snoc ((tt.ext fun a ys h => et _ _ h).ext tn) ⟨t, rfl, ?_, tn _ _ h3⟩
          exact fresh_back (ex.trans ex2) ht
        refine ⟨rfl, un_yes (iteT ?_)⟩
        cases lt with
        | say n' r' f' =>
          obtain ⟨dy, hb'⟩ := hb'
          exact .inl ⟨_, rfl, b, dy, _, rfl, hb', fS_t _ _ _, dy, b, n', r', f', rfl, hb', fun t Hc ht et h3 => fin t Hc ht et h3⟩
        | agree n' =>
          obtain ⟨dy, hb'⟩ := hb'
          exact .inr ⟨_, rfl, b, dy, _, rfl, hb', fA_t _, dy, b, n', rfl, hb', fun t Hc ht et h3 => fin t Hc ht et h3⟩
      · rintro H' ⟨ts, ex2, hLb, lts, tt⟩
        rw [lxs, List.take_length] at tt
        have hD3 := ex2 _ _ hDa
        have LD : L ≠ D := fun z => by rw [z, hDa] at hL'; cases hL'
        refine ⟨_, DPut.t (k := keyD d) hD3 (ex2 _ _ aa) (len_lt (by rw [kvs_len _ _ rl, List.length_take]; omega)), rr ++ [L], ?_, ?_, ?_, ?_, ?_⟩
        · exact (ex.trans ex2).mut hD
        · rw [upd_same, kvs_snoc rl (not_take lnd hd), take_snoc hd]
        · rw [List.nodup_append]
          refine ⟨rnd, by simp, fun u hu v hv => ?_⟩
          obtain rfl := List.mem_singleton.mp hv
          obtain ⟨j, hj⟩ := List.mem_iff_getElem?.mp hu
          obtain ⟨_, _, _, _, ys, hz, _⟩ := paired_at tr hj
          exact ne_of_none hz hL'
        · rw [take_snoc hd, List.length_append, List.length_append, rl]
          rfl
        · rw [take_snoc hlw]
          have off : ∀ a o, a ≠ D → H' a = some o → (upd H' D (.dT (putK (kvsOf ((waits ds ls).take i) rr) (keyD d) (.ref L)))) a = some o := fun a o hne h => by rw [upd_ne hne]; exact h
          have dtu : ∀ ys, H' D ≠ some (.tup ys) := fun ys z => by rw [hD3] at z; cases z
          refine Paired.snoc ((tr.keep (fun a o _ h => ex2 _ _ h) (fun ys z => by rw [hDa] at z; cases z)).keep off dtu) ⟨fresh_back ex hL', LD, ts, off _ _ LD hLb, tt.ext fun a ys h => off _ _ (fun z => dtu ys (by rw [← z]; exact h)) h⟩
    · rintro H' ⟨rr, ex, hDa, rnd, rl, tr⟩
      rw [lws, List.take_length] at hDa rl
      rw [lws] at tr
      refine q D rr H' (fresh_back e1 hD) (e1.trans ex) hDa rnd rl ?_
      rw [rl]
      exact Paired.mapP tr fun r l ⟨a, b, xs, c, d⟩ => ⟨fresh_back e1 a, b, xs, c, Paired.mapP d fun x l ⟨y, z1, z2, z3⟩ => ⟨y, z1, fresh_back e1 z2, z3⟩⟩
end
end K19

set_option maxHeartbeats 1000000
/-! len(o) by an own __len__ -/
namespace MyG
open PySem PySem.Spec PyProof.Rows L2
section
variable {prog : Program} {w : World} {A : Around} {E : Value → Shared → Prop} {s : Shared} {K : PySem.W.Frag} {x f C : Addr} {ox : Obj} {od : Option Obj}
theorem len_own {Q : Value → Shared → Prop} (X : K.In s.heap) (I : PySem.W.InstAt s.heap x ox C od) (hs : PySem.W.findIn K (.ref C) "__len__" = some (some (.ref f))) (hf : PySem.W.isFn K (.ref f) = true)
    (hcall : wpAny (model prog w) A.in1 (call (.ref f) [.ref x]) (fun v s' => ∃ n t, v = .int n t ∧ 0 ≤ n ∧ n < 2 ^ 63 ∧ ∀ tk tk', Q (.int n tk) { s' with toks := tk' }) E s) : wpAny (model prog w) A (call (.builtin "len") [.ref x]) Q E s := by
  refine Calls.call_function_entry kind_len plain_len entry_len (args_len1 _) ?_
  unfold Builtin.«len»
  refine wpAny_bind (m := oneArg "len" _) (wpAny_pure ?_)
  refine wpAny_bind (m := callSpecial? (.ref x) (PySem.Str.ofString "__len__")) ?_
  unfold callSpecial? specialOf
  refine wpAny_bind (wpAny_bind (I.type.here ((PySem.W.looks_findIn X hs).here ?_)))
  refine wpAny_holding (wpAny_bind ((PySem.W.bind_fn X _ (beq_iff_eq.mp hf)).here ?_))
  refine wpAny_bind (wpAny_mono hcall (fun v s' k => wpAny_pure ?_) fun _ _ z => z)
  obtain ⟨n, t, rfl, h0, h1, q⟩ := k
  refine wpAny_bind (wpAny_holding (wpAny_pure ?_))
  refine wpAny_bind (wpAny_letGo ?_)
  show wpAny _ _ (if n < 0 then _ else _) _ _ _
  rw [if_neg (by omega)]
  show wpAny _ _ (if n ≥ 2 ^ 63 then _ else _) _ _ _
  rw [if_neg (by omega)]
  exact wpAny_bind (wpAny_mkInt (wpAny_pure ⟨_, rfl, q _ _⟩))
end
section
variable {X : Cx} {C f : Addr} {n : Nat} {fd : FuncData} {ps : List Str} {sp : Sp} {E : XK} {CX : CXT}
/-- len(o): what the own __len__ gives -/
def rLenO (C : Addr) (sp : Sp) (E : XK) : List V → Hp → VK → Prop := fun xs H Q => ∃ p dx fs, xs = [.ref p] ∧ H p = some (.ins C dx fs) ∧ sp [.ref p] H (fun v H' => ∃ n : Int, v = .int n ∧ 0 ≤ n ∧ n < 2 ^ 63 ∧ Q (.int n) H') E
theorem call_lenO (me : Meth X.K C "__len__" f) (F : FnOk X.prog X.w X.K X.mg X.base CX n f fd ps sp) (room : Room (n + 1) X.A) (hb : Binds X.K fd ps []) (hx : Passes CX X E) : CallR X (.builtin "len") (rLenO C sp E) := by
  intro pins s σ H xs us Q I r h
  obtain ⟨p, dx, fs, rfl, ha, hs⟩ := h
  obtain ⟨u, rfl, ru⟩ := vals1 r
  obtain rfl : u = Value.ref p := ru
  obtain ⟨mA, J, _⟩ := ins_get I.hok ha
  obtain ⟨od, J, _⟩ := J.look
  refine len_own I.kIn J me.1 me.2 ?_
  have e0 : Env0 X.prog X.w X.K X.mg X.base X.A.in1 X.stack s H := { I.env0 with frames := I.env0.frames }
  have rel : Vals [V.ref p] [Value.ref p] := .cons rfl .nil
  have hl : [Value.ref p].length = ps.length := rel.length.symm.trans (F.len _ _ _ _ hs)
  have b := hb s [Value.ref p] I.kIn (by rw [List.append_nil]; exact hl)
  rw [List.append_nil] at b
  refine wpAny_call (codeAny_mono (F.run X.A.in1 X.stack s H ⟨[.ref p], []⟩ [.ref p] [.ref p] _ E room.in1 e0 b rel hs) (fun r s' hq => ?_))
  match r, hq with
  | .error e, hq => exact hx pins σ H s e s' I hq
  | .ok (.ret u), hq =>
    obtain ⟨z, H', I', rz, k, rfl, k0, k1, q⟩ := I.after hq
    obtain ⟨t, rfl⟩ : ∃ t, u = Value.int k t := rz
    exact ⟨k, t, rfl, k0, k1, fun tk tk' => ⟨.int k, H', I'.tok tk', ⟨tk, rfl⟩, q⟩⟩
end
end MyG

set_option maxHeartbeats 2000000
namespace K19
open PySem PySem.Spec PyProof.Rows L2 Evl MyG
/-! ### how many letters -/
def total (ls : List (List Lt)) : Nat := (ls.map List.length).sum
theorem total_take {ls : List (List Lt)} {i : Nat} {l : List Lt} (h : ls[i]? = some l) : total (ls.take (i + 1)) = total (ls.take i) + l.length := by
  unfold total
  rw [take_snoc h, List.map_append, List.sum_append]
  rfl
theorem total_le : ∀ {ls : List (List Lt)} {i : Nat}, total (ls.take i) ≤ total ls
  | [], i => by simp [total]
  | l :: ls, 0 => by simp [total]
  | l :: ls, i + 1 => by
    have ih := total_le (ls := ls) (i := i)
    unfold total at ih ⊢
    simp only [List.take_succ_cons, List.map_cons, List.sum_cons]
    omega
def lSto (D : Addr) (te : TE) : (Hp → Prop) → L2.St → Hp → Prop := fun Nx σ H => te σ H fun y H7 => ∃ acc, H7 D = some (.lst acc) ∧ acc.length < sizeLine ∧ Nx (upd H7 D (.lst (acc ++ [y])))
def sp_plen (C S A : Addr) : Sp := fun vs H Q _ => ∃ (p n : Addr) (B M : Hp) (ds : List Door) (ls : List (List Lt)), vs = [.ref p] ∧ Ex M H ∧ PostAt C S A B M p n ds ls ∧ total ls ≤ 90000 ∧ ∀ H', Ex H H' → Q (.int (total ls : Nat)) H'
section
variable {P : Program} {w : World} {K : PySem.W.Frag} {mg : Str → Option Value} {base : Heap}
theorem ok_plen (T : Tx K mg) : FnOk P w K mg base CX0 1 T.a_Post___len__ T.d_Post___len__ ["self"] (sp_plen T.c_Post T.c_Say T.c_Agree) := by
  refine T.F_Post___len__.ok sc_Post___len__ (fun vs H Q E h => ?_) (fun cdv A outer s H vs Q E hr h => ?_)
  · obtain ⟨_, _, _, _, _, _, rfl, _⟩ := h
    rfl
  · obtain ⟨p, n, B, M, ds, ls, rfl, eM, po, tl, q⟩ := h
    refine ⟨_, (pss_one (ps_ret (pe_callB (lenK (K := K) rfl) (by rfl) T.z_len (by decide +kernel) (pa_cons (pe_lock (pe_lc2 (own := [("row", 1), ("letter", 2)]) (vs1 := [2]) (g := (gName 1)) (tt := tYes) (g1 := (gName 2)) (tt1 := tYes) rfl sc_Post___len__.nd (pi_valuesT (fldK (K := K) rfl (pv 0) rfl)) (blkOk_by (N := n_Post___len__) (sc := defScope s_Post___len__) (by decide +kernel)) (by decide) (fun _ _ _ _ _ => (pg_name (i := 1) sc_Post___len__.nd rfl (Or.inl rfl))) (fun _ _ _ _ _ => pts_nil) (fun _ _ _ _ _ => (iListK (K := K) rfl (pv 1))) (fun _ _ _ _ _ => (pg_name (i := 2) sc_Post___len__.nd rfl (Or.inl rfl))) (fun _ _ _ _ _ => pts_nil) (fun _ _ _ _ _ => (pv 2)))) pa_nil)))), ?_⟩
    obtain ⟨dx, e, rs, h1, h2, nd, hl, hL⟩ := po.ex
    have he := eM _ _ h2
    have pe := ne_of h1 h2 (by intro z; cases z)
    have lk : (kvsOf ds rs).length = ds.length := kvs_len _ _ hl
    have hl2 : rs.length = ls.length := Paired.length hL
    refine ⟨e, _, he, True.intro, fun od => ?_⟩
    refine ⟨_, rfl, p, T.c_Post, dx, _, _, rfl, by rw [upd_ne pe]; exact eM _ _ h1, T.cl_Post, T.n_Post__rows, pf_d _ _, e, od, _, rfl, upd_same, fun D hD => ?_⟩
    have De : D ≠ e := fun z => by rw [z, upd_same] at hD; cases hD
    generalize hHL : upd H e (.frz od (.dT (kvsOf ds rs))) = HL at hD
    have locked : HL e = some (.frz od (.dT (kvsOf ds rs))) := by rw [← hHL]; exact upd_same
    refine wlk_it (J := Itdt e od (kvsOf ds rs)) (body := fun Nx σ2 H3 => iList K (tVar 1) σ2 H3 fun J1 H4 => wlk J1 (gName 2) σ2 [2] tYes Nx (lSto D (tVar 2)) H4) walk_valuesT (fun i H' => ∃ acc, Ex HL H' ∧ H' D = some (.lst acc) ∧ acc.length = total (ls.take i)) ⟨[], Ex.new hD, upd_same, rfl⟩ (fun i H' _ ⟨_, ex, _⟩ => ex _ _ locked) ?_ ?_
    · rintro i x Ha Ha' hi ⟨acc, ex, hDa, la⟩ ⟨rfl, k, hk⟩
      obtain ⟨d, r, hd, hr', rfl, rfl⟩ := kvs_at hk
      obtain ⟨l, hl1, ys, hy, hys⟩ := paired_at hL hr'
      have hrb : Ha' r = some (.lst ys) := ex _ _ (by rw [← hHL, upd_ne (ne_of hy h2 (by intro z; cases z))]; exact eM _ _ hy)
      have lys : ys.length = l.length := Paired.length hys
      have t1 := total_take hl1
      have t2 := total_le (ls := ls) (i := i + 1)
      refine ⟨rfl, un_yes (iteT ⟨_, rfl, r, rfl, ⟨_, SqL.of hrb⟩, ?_⟩)⟩
      refine wlk_it (walk_list (xs := ys)) (fun j H' => ∃ acc, Ex HL H' ∧ H' D = some (.lst acc) ∧ acc.length = total (ls.take i) + j) ⟨acc, ex, hDa, by omega⟩ (fun j H' _ ⟨_, ex2, _⟩ => SqL.of (ex2 _ _ (by rw [← hHL, upd_ne (ne_of hy h2 (by intro z; cases z))]; exact eM _ _ hy))) ?_ ?_
      · rintro j y Hb Hb' hj ⟨acc, ex2, hDb, lb⟩ ⟨rfl, hy2⟩
        refine ⟨rfl, un_yes (iteT ⟨_, rfl, acc, hDb, len_lt (by omega), acc ++ [y], ex2.mut hD, upd_same, by rw [List.length_append, List.length_singleton]; omega⟩)⟩
      · rintro H' ⟨acc, ex2, hDb, lb⟩
        exact ⟨acc, ex2, hDb, by omega⟩
    · rintro H' ⟨acc, ex, hDa, la⟩
      rw [lk, show ls.take ds.length = ls by rw [← hl, hl2, List.take_length]] at la
      have ef := unlock_ex he (by rw [hHL]; exact ex)
      refine ⟨ex _ _ locked, D, acc, rfl, .inl (SqL.of (by rw [upd_ne De]; exact hDa)), ?_⟩
      rw [la]
      exact q _ ef
end
end K19

set_option maxHeartbeats 2000000
namespace K19
open PySem PySem.Spec PyProof.Rows L2 Evl MyG
/-! ### letters made -/
def sp_made1 (S A : Addr) : Sp := fun vs H Q _ => ∃ (t : Addr) (l : Lt), vs = [.ref t] ∧ H t = some (.tup l.vs) ∧ ∀ p H', H p = none → Ex H H' → LtAt S A H' p l → Q (.ref p) H'
section
variable {P : Program} {w : World} {K : PySem.W.Frag} {mg : Str → Option Value} {base : Heap}
theorem ok_made (T : Tx K mg) : FnOk P w K mg base CX0 3 T.a_l_made T.d_l_made ["_law_told"] (sp_made1 T.c_Say T.c_Agree) := by
  have G_Say___init__ := ok_initS (P := P) (w := w) (base := base) T
  have G_Agree___init__ := ok_initA (P := P) (w := w) (base := base) T
  refine T.F_l_made.ok sc_l_made (fun vs H Q E h => ?_) (fun cdv A outer s H vs Q E hr h => ?_)
  · obtain ⟨_, _, rfl, _⟩ := h
    rfl
  · obtain ⟨t, l, rfl, ht, q⟩ := h
    refine ⟨_, (pss_one (ps_ret (pe_ifExp (pt_cmpR op_eq (pe_ix (ix_tupK (K := K) rfl) (pv 0) pe_int (fun _ _ => rfl)) pe_str (nomark _)) (pe_make T.m_Agree G_Agree___init__ (hr.mono (by decide)) (by rfl) T.g_Agree T.b_Agree___init__ .nil pass0 (pa_cons (pe_ix (ix_tupK (K := K) rfl) (pv 0) pe_int (fun _ _ => rfl)) pa_nil)) (pe_make T.m_Say G_Say___init__ (hr.mono (by decide)) (by rfl) T.g_Say T.b_Say___init__ .nil pass0 (pa_cons (pe_ix (ix_tupK (K := K) rfl) (pv 0) pe_int (fun _ _ => rfl)) (pa_cons (pe_ix (ix_tupK (K := K) rfl) (pv 0) pe_int (fun _ _ => rfl)) (pa_cons (pe_ix (ix_tupK (K := K) rfl) (pv 0) pe_int (fun _ _ => rfl)) pa_nil))))))), ?_⟩
    have I : ∀ (j : Nat) {v : V} {H1 : Hp}, Ex H H1 → l.vs[j]? = some v → Ev (tOp (rIxT K) (tVar 0) (tC (V.int j))) [some (.ref t)] H1 v := fun j {v H1} e hj => ev_op (ev_var rfl) ev_c (rv_ixT (SqT.of (e _ _ ht)) (atI_nat hj))
    refine un_ret ?_
    cases l with
    | agree n =>
      refine (et_is (et_test (ev_op (I 0 (Ex.refl _) rfl) ev_c (rv_eq rfl))) (show _ = true by decide +kernel)) H (Ex.refl _) _ fun H1 e1 => iteT ?_
      exact (em_agree (ea_cons (I 1 e1 rfl) ea_nil)) H1 (Ex.refl _) _ fun p H2 hp e2 hl => q p H2 (fresh_back e1 hp) (e1.trans e2) hl
    | say n r f =>
      refine (et_is (et_test (ev_op (I 0 (Ex.refl _) rfl) ev_c (rv_eq rfl))) (show _ = false by decide +kernel)) H (Ex.refl _) _ fun H1 e1 => iteF ?_
      exact (em_say (ea_cons (I 1 e1 rfl) (ea_cons (I 2 e1 rfl) (ea_cons (I 3 e1 rfl) ea_nil)))) H1 (Ex.refl _) _ fun p H2 hp e2 hl => q p H2 (fresh_back e1 hp) (e1.trans e2) hl
end
end K19

set_option maxHeartbeats 2000000
namespace K19
open PySem PySem.Spec PyProof.Rows L2 Evl MyG
/-! ### doors in their order -/
def dLt (a b : Door) : Prop := a.1 < b.1 ∨ (a.1 = b.1 ∧ a.2 < b.2)
theorem lo_lt {r : Row} (h : r.1 ≠ r.2.1) : lo r < hi r := by
  unfold lo hi
  split <;> omega
theorem doors_so : ∀ {rs : List Row} {k : Nat}, (∀ r ∈ rs, r.1 ≠ r.2.1) → (doorsFrom k rs).Pairwise dLt
  | [], _, _ => .nil
  | r :: rs, k, h => by
    have ih := doors_so (k := k + 1) fun r hr => h r (List.mem_cons_of_mem _ hr)
    have up : ∀ {x : Int} (d : Door), d ∈ doorsFrom (k + 1) rs → dLt ((k : Int), x) d := fun {x} d hd => .inl (by
      have := (doors_bd hd).1
      show (k : Int) < d.1
      omega)
    refine .cons (fun d hd => ?_) (.cons (fun d hd => up d hd) ih)
    rcases List.mem_cons.mp hd with rfl | hd
    · exact .inr ⟨rfl, lo_lt (h r (List.mem_cons_self ..))⟩
    · exact up d hd
theorem waits_sub : ∀ {ds : List Door} {ls : List (List Lt)}, (waits ds ls).Sublist ds
  | [], _ => by simp [waits]
  | _ :: _, [] => by simp [waits]
  | d0 :: ds, l0 :: ls => by
    show (if l0.isEmpty then waits ds ls else d0 :: waits ds ls).Sublist _
    split
    · exact .cons _ waits_sub
    · exact .cons₂ _ waits_sub
theorem dLt_irr {a : Door} : ¬ dLt a a := fun h => by
  rcases h with h | ⟨_, h⟩ <;> omega
theorem dLt_asy {a b : Door} (h : dLt a b) (k : dLt b a) : False := by
  rcases h with h | ⟨h, h'⟩ <;> rcases k with k | ⟨k, k'⟩ <;> omega
/-- two risings of the same doors -/
theorem rising_eq : ∀ {xs ys : List Door}, xs.Pairwise dLt → ys.Pairwise dLt → (∀ d, d ∈ xs ↔ d ∈ ys) → xs = ys
  | [], [], _, _, _ => rfl
  | [], y :: ys, _, _, h => absurd ((h y).mpr (List.mem_cons_self ..)) (by simp)
  | x :: xs, [], _, _, h => absurd ((h x).mp (List.mem_cons_self ..)) (by simp)
  | x :: xs, y :: ys, hx, hy, h => by
    rw [List.pairwise_cons] at hx hy
    have e : x = y := by
      rcases List.mem_cons.mp ((h x).mp (List.mem_cons_self ..)) with e | m
      · exact e
      · rcases List.mem_cons.mp ((h y).mpr (List.mem_cons_self ..)) with e | m2
        · exact e.symm
        · exact (dLt_asy (hx.1 y m2) (hy.1 x m)).elim
    subst e
    congr 1
    refine rising_eq hx.2 hy.2 fun d => ⟨fun m => ?_, fun m => ?_⟩
    · rcases List.mem_cons.mp ((h d).mp (List.mem_cons_of_mem _ m)) with e | m2
      · exact (dLt_irr (by rw [e] at m; exact hx.1 _ m)).elim
      · exact m2
    · rcases List.mem_cons.mp ((h d).mpr (List.mem_cons_of_mem _ m)) with e | m2
      · exact (dLt_irr (by rw [e] at m; exact hy.1 _ m)).elim
      · exact m2
def dOf (H : Hp) : V → Int × Int
  | .ref t => match H t with
    | some (.tup [.int i, .int j]) => (i, j)
    | _ => (0, 0)
  | _ => (0, 0)
theorem dOf_at {H : Hp} {t : Addr} {d : Door} (h : H t = some (.tup (doorV d))) : dOf H (.ref t) = d := by
  show (match H t with
    | some (.tup [.int i, .int j]) => (i, j)
    | _ => ((0, 0) : Int × Int)) = d
  rw [h]
  rfl
theorem DoorsAt.map {H : Hp} : ∀ {xs : List V} {dd : List Door}, DoorsAt H xs dd → xs.map (dOf H) = dd ∧ ∀ x ∈ xs, ∃ t, x = .ref t ∧ H t = some (.tup (doorV (dOf H x)))
  | _, _, .nil => ⟨rfl, fun x h => nomatch h⟩
  | _, _, .cons ⟨a, h1, h2⟩ t => by
    obtain ⟨e, m⟩ := DoorsAt.map t
    subst h1
    refine ⟨by rw [List.map_cons, e, dOf_at h2], fun x hx => ?_⟩
    rcases List.mem_cons.mp hx with rfl | hx
    · exact ⟨a, rfl, by rw [dOf_at h2]; exact h2⟩
    · exact m x hx
theorem doorsAt_of {H : Hp} : ∀ {xs : List V}, (∀ x ∈ xs, ∃ t, x = .ref t ∧ H t = some (.tup (doorV (dOf H x)))) → DoorsAt H xs (xs.map (dOf H))
  | [], _ => .nil
  | x :: xs, h => by
    obtain ⟨t, e, ht⟩ := h x (List.mem_cons_self ..)
    exact .cons ⟨t, e, ht⟩ (doorsAt_of fun y hy => h y (List.mem_cons_of_mem _ hy))
theorem sortedPK {X : Cx} {K : PySem.W.Frag} (h : X.K = K) : CallR X (.builtin "sorted") (rSortedPO K) := by subst h; exact cr_sortedPO
/-- the rising list of doors that are no two alike -/
theorem sort_doors {K : PySem.W.Frag} {H : Hp} {a : Addr} {xs : List V} {dd : List Door} {Q : VK} (ha : SqL K H a xs) (hd : DoorsAt H xs dd) (nd : dd.Nodup)
    (q : ∀ p ys dd', dd'.Perm dd → dd'.Pairwise dLt → DoorsAt H ys dd' → H p = none → Q (.ref p) (upd H p (.lst ys))) : rSortedPO K [.ref a] H Q := by
  obtain ⟨e, m⟩ := hd.map
  refine ⟨a, xs, dOf H, rfl, ha, fun x hx => m x hx, fun ys p so st hp => ?_⟩
  have pm := st.perm
  have my : ∀ x ∈ ys, ∃ t, x = .ref t ∧ H t = some (.tup (doorV (dOf H x))) := fun x hx => m x (pm.mem_iff.mp hx)
  refine q p ys (ys.map (dOf H)) (by rw [← e]; exact pm.map _) ?_ (doorsAt_of my) hp
  have nd2 : (ys.map (dOf H)).Nodup := (pm.map (dOf H)).symm.nodup (by rw [e]; exact nd)
  rw [List.pairwise_map]
  rw [List.Nodup, List.pairwise_map] at nd2
  refine List.Pairwise.imp₂ (fun x y h1 h2 => ?_) so nd2
  have h1 : SrtO.lexB (dOf H y) (dOf H x) = false := h1
  generalize dOf H x = u at h1 h2 ⊢
  generalize dOf H y = v at h1 h2 ⊢
  obtain ⟨u1, u2⟩ := u
  obtain ⟨v1, v2⟩ := v
  have ne : ¬ (u1 = v1 ∧ u2 = v2) := fun z => h2 (by rw [z.1, z.2])
  have h3 : ¬ (v1 < u1 ∨ (v1 = u1 ∧ v2 < u2)) := fun z => by
    rw [SrtO.lexB_iff.mpr z] at h1
    cases h1
  show u1 < v1 ∨ (u1 = v1 ∧ u2 < v2)
  omega
end K19

set_option maxHeartbeats 2000000
namespace K19
open PySem PySem.Spec PyProof.Rows L2 Evl MyG
/-! ### a book: what letters each door should have -/
def TupsAt (B : Hp) : List V → List Lt → Prop := Paired fun (x : V) (l : Lt) => ∃ a, x = .ref a ∧ B a = some (.tup l.vs)
theorem TupsAt.ext {B B' : Hp} (e : Ex B B') {xs : List V} {l : List Lt} (h : TupsAt B xs l) : TupsAt B' xs l := Paired.mapP h fun _ _ ⟨a, h1, h2⟩ => ⟨a, h1, e _ _ h2⟩
structure BookAt (B N : Hp) (b : Addr) (kv : List (Door × List Lt)) : Prop where
  ex : ∃ rs, N b = some (.dT (kvsOf (kv.map (·.1)) rs)) ∧ rs.Nodup ∧ rs.length = kv.length ∧ Paired (fun (r : Addr) (e : Door × List Lt) => ∃ xs, N r = some (.lst xs) ∧ TupsAt B xs e.2) rs kv
  nd : (kv.map (·.1)).Nodup
def got (kv : List (Door × List Lt)) (d : Door) : List Lt := ((kv.find? fun e => decide (e.1 = d)).map (·.2)).getD []
theorem got_at : ∀ {kv : List (Door × List Lt)} {i : Nat} {d : Door} {l : List Lt}, (kv.map (·.1)).Nodup → kv[i]? = some (d, l) → got kv d = l
  | [], _, _, _, _, h => by simp at h
  | (d0, l0) :: kv, 0, d, l, nd, h => by
    simp only [List.getElem?_cons_zero, Option.some.injEq, Prod.mk.injEq] at h
    obtain ⟨rfl, rfl⟩ := h
    simp [got]
  | (d0, l0) :: kv, i + 1, d, l, nd, h => by
    simp only [List.getElem?_cons_succ] at h
    rw [List.map_cons, List.nodup_cons] at nd
    have ne : ¬ d0 = d := fun e => nd.1 (by rw [e]; exact List.mem_map.mpr ⟨(d, l), List.mem_of_getElem? h, rfl⟩)
    have ih := got_at nd.2 h
    unfold got at ih ⊢
    rw [List.find?_cons_of_neg (by simpa using ne)]
    exact ih
theorem BookAt.row {B N : Hp} {b : Addr} {kv : List (Door × List Lt)} {i : Nat} {d : Door} {l : List Lt} (h : BookAt B N b kv) (hd : kv[i]? = some (d, l)) :
    ∃ kvs r xs, N b = some (.dT kvs) ∧ valV kvs (keyD d) = some (.ref r) ∧ N r = some (.lst xs) ∧ TupsAt B xs l := by
  obtain ⟨rs, h1, h2, h3, h4⟩ := h.ex
  have hi : i < rs.length := by
    have := (List.getElem?_eq_some_iff.mp hd).1
    omega
  obtain ⟨e, he, xs, hx, hxs⟩ := paired_at h4 (List.getElem?_eq_getElem hi)
  rw [hd] at he
  obtain rfl := Option.some.inj he
  exact ⟨_, rs[i], xs, h1, valV_kvs h.nd (by rw [List.getElem?_map, hd]; rfl) (List.getElem?_eq_getElem hi), hx, hxs⟩
/-- the doors with letters, in the book's order -/
def live (kv : List (Door × List Lt)) : List Door := (kv.filter fun e => !e.2.isEmpty).map (·.1)
theorem live_take {kv : List (Door × List Lt)} {i : Nat} {e : Door × List Lt} (h : kv[i]? = some e) : live (kv.take (i + 1)) = live (kv.take i) ++ (if e.2.isEmpty then [] else [e.1]) := by
  unfold live
  rw [take_snoc h, List.filter_append, List.map_append]
  cases he : e.2.isEmpty with
  | true => rw [List.filter_cons_of_neg (by rw [he]; decide)]; rfl
  | false => rw [List.filter_cons_of_pos (by rw [he]; decide)]; rfl
theorem live_nd {kv : List (Door × List Lt)} (h : (kv.map (·.1)).Nodup) : (live kv).Nodup := ((List.filter_sublist (p := fun e : Door × List Lt => !e.2.isEmpty) (l := kv)).map fun e : Door × List Lt => e.1).nodup h
theorem live_mem {kv : List (Door × List Lt)} {d : Door} : d ∈ live kv ↔ ∃ l, (d, l) ∈ kv ∧ l.isEmpty = false := by
  unfold live
  simp only [List.mem_map, List.mem_filter, Bool.not_eq_true']
  constructor
  · rintro ⟨⟨d', l⟩, ⟨h1, h2⟩, rfl⟩
    exact ⟨l, h1, h2⟩
  · rintro ⟨l, h1, h2⟩
    exact ⟨(d, l), ⟨h1, h2⟩, rfl⟩
theorem waits_mem_iff : ∀ {ds : List Door} {ls : List (List Lt)} {d : Door}, d ∈ waits ds ls ↔ ∃ (i : Nat) (l : List Lt), ds[i]? = some d ∧ ls[i]? = some l ∧ l.isEmpty = false
  | [], ls, d => by simp [waits]
  | _ :: _, [], d => by simp [waits]
  | d0 :: ds, l0 :: ls, d => by
    have ih := waits_mem_iff (ds := ds) (ls := ls) (d := d)
    show d ∈ (if l0.isEmpty then waits ds ls else d0 :: waits ds ls) ↔ _
    constructor
    · intro h
      cases he : l0.isEmpty with
      | true =>
        rw [he, if_pos rfl] at h
        obtain ⟨i, l, h1, h2, h3⟩ := ih.mp h
        exact ⟨i + 1, l, h1, h2, h3⟩
      | false =>
        rw [he, if_neg (by decide)] at h
        rcases List.mem_cons.mp h with rfl | h
        · exact ⟨0, l0, rfl, rfl, he⟩
        · obtain ⟨i, l, h1, h2, h3⟩ := ih.mp h
          exact ⟨i + 1, l, h1, h2, h3⟩
    · rintro ⟨i, l, h1, h2, h3⟩
      cases i with
      | zero =>
        simp only [List.getElem?_cons_zero, Option.some.injEq] at h1 h2
        subst h1 h2
        rw [h3, if_neg (by decide)]
        exact List.mem_cons_self ..
      | succ j =>
        have m := ih.mpr ⟨j, l, h1, h2, h3⟩
        split
        · exact m
        · exact List.mem_cons_of_mem _ m
/-- the book tells what the post has -/
structure Agrees (ds : List Door) (ls : List (List Lt)) (kv : List (Door × List Lt)) : Prop where
  sub : ∀ e ∈ kv, e.1 ∈ ds
  got : ∀ (i : Nat) (d : Door) (l : List Lt), ds[i]? = some d → ls[i]? = some l → got kv d = l
  len : ls.length = ds.length
theorem agrees_doors {ds : List Door} {ls : List (List Lt)} {kv : List (Door × List Lt)} (h : Agrees ds ls kv) (nd : (kv.map (·.1)).Nodup) (d : Door) : d ∈ live kv ↔ d ∈ waits ds ls := by
  rw [live_mem, waits_mem_iff]
  constructor
  · rintro ⟨l, hm, he⟩
    obtain ⟨i, hi⟩ := List.mem_iff_getElem?.mp (h.sub _ hm)
    have hl : i < ls.length := by
      have := (List.getElem?_eq_some_iff.mp hi).1
      rw [h.len]
      exact this
    obtain ⟨j, hj⟩ := List.mem_iff_getElem?.mp hm
    have e := h.got i d _ hi (List.getElem?_eq_getElem hl)
    rw [got_at nd hj] at e
    exact ⟨i, l, hi, by rw [List.getElem?_eq_getElem hl, ← e], he⟩
  · rintro ⟨i, l, hd, hl, he⟩
    have e := h.got i d l hd hl
    unfold K19.got at e
    cases q : kv.find? (fun e => decide (e.1 = d)) with
    | none =>
      rw [q] at e
      have e : [] = l := e
      rw [← e] at he
      cases he
    | some z =>
      rw [q] at e
      have e : z.2 = l := e
      have z1 : z.1 = d := by simpa using List.find?_some q
      have z2 := List.mem_of_find?_eq_some q
      subst e
      refine ⟨z.2, ?_, he⟩
      rw [← z1]
      exact z2
end K19

set_option maxHeartbeats 2000000
namespace K19
open PySem PySem.Spec PyProof.Rows L2 Evl MyG
def laneD (l : List Lt) : List PyData := l.map fun t => .tuple t.ds
def doorD (d : Door) : PyData := .tuple [.int d.1, .int d.2]
theorem lay_lt (t : Lt) : PyData.canLay0 (.tuple t.ds) = true ∧ PyData.depth (.tuple t.ds) ≤ 1 := by
  have h1 : PyData.strOk "say" = true := by decide +kernel
  have h2 : PyData.strOk "agree" = true := by decide +kernel
  cases t with
  | say n r f => exact ⟨by simp [PyData.canLay0, PyData.canLayAll0, Lt.ds, h1], by simp [PyData.depth, PyData.depthAll, Lt.ds]⟩
  | agree n => exact ⟨by simp [PyData.canLay0, PyData.canLayAll0, Lt.ds, h2], by simp [PyData.depth, PyData.depthAll, Lt.ds]⟩
theorem shaped_laneD (l : List Lt) : SeqAt.shaped (.list (laneD l)) = true := by
  have c : PyData.canLayAll0 (laneD l) = true ∧ PyData.depthAll (laneD l) ≤ 1 := by
    unfold laneD
    induction l with
    | nil => exact ⟨rfl, Nat.zero_le _⟩
    | cons t l ih =>
      obtain ⟨a, b⟩ := lay_lt t
      generalize PyData.tuple t.ds = z at a b
      rw [List.map_cons]
      refine ⟨?_, ?_⟩
      · unfold PyData.canLayAll0
        rw [show PyData.canLay0 (PyData.tuple t.ds) = true from (lay_lt t).1, ih.1]
        rfl
      · unfold PyData.depthAll
        have := (lay_lt t).2
        have := ih.2
        omega
  unfold SeqAt.shaped
  simp only [PyData.canLay0, c.1, PyData.depth]
  have : PyData.depthAll (laneD l) + 1 ≤ 64 := by omega
  simp [this]
theorem eqv_laneD (l : List Lt) : PyData.eqv (.list (laneD l)) (.list []) = l.isEmpty := by
  cases l <;> simp [laneD, PyData.eqv, PyData.eqvAll]
theorem dq_tups {H : Hp} : ∀ {xs : List V} {l : List Lt}, (Paired (fun (x : V) (t : Lt) => ∃ a, x = .ref a ∧ H a = some (.tup t.vs)) xs l) → DqAll H xs (laneD l)
  | _, _, .nil => .nil
  | _, _, .cons ⟨a, h1, h2⟩ t => .cons (by rw [h1]; exact .tup h2 (lt_dq _)) (dq_tups t)
theorem dq_doors {H : Hp} : ∀ {xs : List V} {dd : List Door}, DoorsAt H xs dd → DqAll H xs (dd.map doorD)
  | _, _, .nil => .nil
  | _, _, .cons ⟨a, h1, h2⟩ t => .cons (by rw [h1]; exact .tup h2 (.cons (.int _) (.cons (.int _) .nil))) (dq_doors t)
theorem alk_doors {dd : List Door} (h : dd.length ≤ 1000) : alk 4 (.list (dd.map doorD)) = true := by
  unfold alk
  rw [List.length_map, decide_eq_true h, Bool.true_and, List.all_map, List.all_eq_true]
  intro d _
  simp [alk, doorD]
theorem alk_rows {ls : List (List Lt)} (h : ls.length ≤ 1000) (hl : ∀ l ∈ ls, l.length ≤ 1000) : alk 4 (.list (ls.map fun l => .list (laneD l))) = true := by
  unfold alk
  rw [List.length_map, decide_eq_true h, Bool.true_and, List.all_map, List.all_eq_true]
  intro l hm
  show alk 3 (.list (laneD l)) = true
  unfold alk
  have hk := hl l hm
  rw [show (laneD l).length = l.length by unfold laneD; rw [List.length_map], decide_eq_true hk, Bool.true_and]
  unfold laneD
  rw [List.all_map, List.all_eq_true]
  intro t _
  exact lt_alk 0 t
theorem len_subD {α : Type} [DecidableEq α] : ∀ {xs ys : List α}, xs.Nodup → (∀ y ∈ xs, y ∈ ys) → xs.length ≤ ys.length
  | [], _, _, _ => Nat.zero_le _
  | x :: xs, ys, nd, h => by
    rw [List.nodup_cons] at nd
    have hy := h x (List.mem_cons_self ..)
    have k := len_subD (ys := ys.erase x) nd.2 fun z hz => (List.mem_erase_of_ne (fun e => nd.1 (by rw [← e]; exact hz))).mpr (h z (List.mem_cons_of_mem _ hz))
    rw [List.length_erase_of_mem hy] at k
    have := List.length_pos_of_mem hy
    rw [List.length_cons]
    omega
theorem lanes_len : ∀ {ds : List Door} {ls : List (List Lt)}, ls.length = ds.length → (lanesOf ls).length = (waits ds ls).length
  | [], [], _ => rfl
  | [], _ :: _, h => by simp at h
  | _ :: _, [], h => by simp at h
  | d :: ds, l :: ls, h => by
    have ih := lanes_len (ds := ds) (ls := ls) (by simpa using h)
    show ((l :: ls).filter fun l => !l.isEmpty).length = (if l.isEmpty then waits ds ls else d :: waits ds ls).length
    cases he : l.isEmpty with
    | true => rw [List.filter_cons_of_neg (by rw [he]; decide), if_pos rfl]; exact ih
    | false => rw [List.filter_cons_of_pos (by rw [he]; decide), if_neg (by decide), List.length_cons, List.length_cons]; exact congrArg (· + 1) ih
theorem lanes_total : ∀ ls : List (List Lt), ((lanesOf ls).map List.length).sum = total ls
  | [] => rfl
  | l :: ls => by
    have ih := lanes_total ls
    unfold total at ih ⊢
    show (((l :: ls).filter fun l => !l.isEmpty).map List.length).sum = _
    cases he : l.isEmpty with
    | true =>
      rw [List.filter_cons_of_neg (by rw [he]; decide), List.map_cons, List.sum_cons]
      have : l = [] := List.isEmpty_iff.mp he
      subst this
      have ih : ((ls.filter fun l => !l.isEmpty).map List.length).sum = _ := ih
      rw [ih]
      simp
    | false =>
      rw [List.filter_cons_of_pos (by rw [he]; decide), List.map_cons, List.sum_cons, List.map_cons, List.sum_cons]
      have ih : ((ls.filter fun l => !l.isEmpty).map List.length).sum = _ := ih
      rw [ih]
theorem lanes_got {ds : List Door} {ls : List (List Lt)} {kv : List (Door × List Lt)} (h : Agrees ds ls kv) : (waits ds ls).map (got kv) = lanesOf ls := by
  refine List.ext_getElem? fun i => ?_
  rw [List.getElem?_map]
  cases hd : (waits ds ls)[i]? with
  | none =>
    have := List.getElem?_eq_none_iff.mp hd
    rw [← lanes_len h.len] at this
    rw [List.getElem?_eq_none this]
    rfl
  | some d =>
    obtain ⟨k, l, h1, h2, h3⟩ := waits_ix hd
    rw [h3, Option.map_some, h.got k d l h1 h2]
theorem lane_le : ∀ {ls : List (List Lt)} {l : List Lt}, l ∈ ls → l.length ≤ total ls
  | l0 :: ls, l, h => by
    unfold total
    rw [List.map_cons, List.sum_cons]
    rcases List.mem_cons.mp h with rfl | h
    · omega
    · have := lane_le h
      unfold total at this
      omega
theorem keys_doors {H : Hp} : ∀ {dd : List Door} {rr bs : List Addr}, rr.length = dd.length → IsKeys H (kvsOf dd rr) bs → DoorsAt H (bs.map V.ref) dd
  | [], [], _, _, .nil => .nil
  | [], _ :: _, _, h, _ => by simp at h
  | _ :: _, [], _, h, _ => by simp at h
  | d :: dd, r :: rr, _, h, .cons a t => .cons ⟨_, rfl, a⟩ (keys_doors (by simpa using h) t)
theorem book_rows {B N : Hp} {b : Addr} {kv : List (Door × List Lt)} (h : BookAt B N b kv) : ∀ {W : List Door}, (∀ d ∈ W, d ∈ live kv) → ∃ ys : List V, Paired (fun (y : V) (d : Door) => ∃ kvs r xs, N b = some (.dT kvs) ∧ y = .ref r ∧ valV kvs (keyD d) = some (.ref r) ∧ N r = some (.lst xs) ∧ TupsAt B xs (got kv d)) ys W
  | [], _ => ⟨[], .nil⟩
  | d :: W, hm => by
    obtain ⟨ys, p⟩ := book_rows h fun d hd => hm d (List.mem_cons_of_mem _ hd)
    obtain ⟨l, hl, _⟩ := live_mem.mp (hm d (List.mem_cons_self ..))
    obtain ⟨j, hj⟩ := List.mem_iff_getElem?.mp hl
    obtain ⟨kvs, r, xs, a1, a2, a3, a4⟩ := h.row hj
    exact ⟨.ref r :: ys, .cons ⟨kvs, r, xs, a1, rfl, a2, a3, by rw [got_at h.nd hj]; exact a4⟩ p⟩
theorem dq_told {H0 H : Hp} {D : Addr} : ∀ {rr : List Addr} {ls : List (List Lt)}, ToldR H0 H D rr ls → DqAll H (rr.map V.ref) (ls.map fun l => .list (laneD l))
  | _, _, .nil => .nil
  | _, _, .cons ⟨_, _, xs, h1, h2⟩ t => .cons (.lst h1 (dq_tups (Paired.mapP h2 fun _ _ ⟨a, a1, _, a3⟩ => ⟨a, a1, a3⟩))) (dq_told t)
theorem dq_book {B N H : Hp} {b : Addr} {kv : List (Door × List Lt)} : ∀ {ys : List V} {W : List Door}, Paired (fun (y : V) (d : Door) => ∃ kvs r xs, N b = some (.dT kvs) ∧ y = .ref r ∧ valV kvs (keyD d) = some (.ref r) ∧ N r = some (.lst xs) ∧ TupsAt B xs (got kv d)) ys W → Ex N H → Ex B H → DqAll H ys (W.map ((fun l => .list (laneD l)) ∘ got kv))
  | _, _, .nil, _, _ => .nil
  | _, _, .cons ⟨_, _, xs, _, e, _, h1, h2⟩ t, eN, eB => .cons (by rw [e]; exact .lst (eN _ _ h1) (dq_tups (Paired.mapP h2 fun _ _ ⟨a, a1, a2⟩ => ⟨a, a1, eB _ _ a2⟩))) (dq_book t eN eB)
theorem sum_cast : ∀ ls : List (List Lt), (ls.map fun l => (l.length : Int)).sum = (((ls.map List.length).sum : Nat) : Int)
  | [] => rfl
  | l :: ls => by
    rw [List.map_cons, List.sum_cons, List.map_cons, List.sum_cons, sum_cast ls]
    omega
def sp_stands (C S A : Addr) : Sp := fun vs H Q _ => ∃ (p n b : Addr) (B M N : Hp) (ds : List Door) (ls : List (List Lt)) (kv : List (Door × List Lt)), vs = [.ref p, .ref b] ∧ Ex B H ∧ Ex M H ∧ Ex N H ∧ PostAt C S A B M p n ds ls ∧ ds.Pairwise dLt ∧ ds.length ≤ 24 ∧ total ls ≤ 900 ∧
  BookAt B N b kv ∧ Agrees ds ls kv ∧ ∀ H', Ex H H' → Q (.bl true) H'
section
variable {P : Program} {w : World} {K : PySem.W.Frag} {mg : Str → Option Value} {base : Heap}
theorem ok_stands (T : Tx K mg) : FnOk P w K mg base CX0 5 T.a_l_stands T.d_l_stands ["_law_post", "_law_lanes"] (sp_stands T.c_Post T.c_Say T.c_Agree) := by
  have G_Post_waiting := ok_pwaiting (P := P) (w := w) (base := base) T
  have G_Post_rows := ok_prows (P := P) (w := w) (base := base) T
  have G_Post___len__ := ok_plen (P := P) (w := w) (base := base) T
  have G_l_alike := ok_alike (P := P) (w := w) (base := base) T 4
  refine T.F_l_stands.ok sc_l_stands (fun vs H Q E h => ?_) (fun cdv A outer s H vs Q E hr h => ?_)
  · obtain ⟨_, _, _, _, _, _, _, _, _, rfl, _⟩ := h
    rfl
  · obtain ⟨p, n, b, B, M, N, ds, ls, kv, rfl, eB, eM, eN, po, dso, dl, tot, bk, ag, q⟩ := h
    refine ⟨_, (pss_cons (ps_set (i := 3) sc_l_stands.nd rfl (Or.inl rfl) (pe_callB (sortedPK (K := K) rfl) (by rfl) T.z_sorted (by decide +kernel) (pa_cons (pe_lock (pe_lc (own := [("_law_door", 2)]) (g := (gName 2)) rfl sc_l_stands.nd (pi_keys (pv 1)) (blkOk_by (N := n_l_stands) (sc := defScope s_l_stands) (by decide +kernel)) (fun _ _ _ _ _ => (pg_name (i := 2) sc_l_stands.nd rfl (Or.inl rfl))) (fun _ _ _ _ _ => (pts_one (pt_cmpR (op_neK (K := K) rfl hr.units) (pe_dget (Nat.lt_of_le_of_lt (Nat.add_le_add_left (by decide) _) hr.units) (pv 1) (pv 2) (fun _ _ => rfl)) (pe_lst pa_nil) (nomark _)))) (fun _ _ _ _ _ => (pv 2)))) pa_nil)))
  (pss_cons (ps_asg (pe_tup (pa_cons (pe_meth0 (pv 0) T.cl_Post T.me_Post_waiting G_Post_waiting (hr.mono (by decide)) T.b_Post_waiting .nil pass0) (pa_cons (pe_meth0 (pv 0) T.cl_Post T.me_Post_rows G_Post_rows (hr.mono (by decide)) T.b_Post_rows .nil pass0) pa_nil))) (pg_tup rfl (pgs_cons (pg_name (i := 4) sc_l_stands.nd rfl (Or.inl rfl)) (pgs_cons (pg_name (i := 5) sc_l_stands.nd rfl (Or.inr rfl)) pgs_nil))))
  (pss_cons (ps_if (PW.pt (pw_or (pt_not (pt_val (pe_call G_l_alike (hr.mono (by decide)) (by rfl) T.g_l_alike T.F_l_alike.kp T.b_l_alike .nil pass0 (pa_cons (pv 4) (pa_cons (pv 3) pa_nil))))) (pw_or (pt_not (pt_val (pe_callB (isiK (K := K) rfl) (by rfl) T.z_isinstance (by decide +kernel) (pa_cons (pv 5) (pa_cons (pe_bltn (v := .ty "dict") (by rfl) T.z_dict (by decide +kernel) rfl) pa_nil))))) (pw_or1 (pt_not (pt_val (pe_call G_l_alike (hr.mono (by decide)) (by rfl) T.g_l_alike T.F_l_alike.kp T.b_l_alike .nil pass0 (pa_cons (pe_callTy (call_list_dT rfl) (by rfl) T.z_list (by decide +kernel) (pa_cons (pv 5) pa_nil)) (pa_cons (pv 3) pa_nil))))))))) (pss_one (ps_ret pe_bl)) pss_nil)
  (pss_cons (ps_if (pt_not (pt_val (pe_call G_l_alike (hr.mono (by decide)) (by rfl) T.g_l_alike T.F_l_alike.kp T.b_l_alike .nil pass0 (pa_cons (pe_lc (own := [("_law_door", 2)]) (g := (gName 2)) (tt := tYes) rfl sc_l_stands.nd (iListK (K := K) rfl (pv 3)) (blkOk_by (N := n_l_stands) (sc := defScope s_l_stands) (by decide +kernel)) (fun _ _ _ _ _ => (pg_name (i := 2) sc_l_stands.nd rfl (Or.inl rfl))) (fun _ _ _ _ _ => pts_nil) (fun _ _ _ _ _ => (pe_dget (Nat.lt_of_le_of_lt (Nat.add_le_add_left (by decide) _) hr.units) (pv 5) (pv 2) (fun _ _ => rfl)))) (pa_cons (pe_lc (own := [("_law_door", 2)]) (g := (gName 2)) (tt := tYes) rfl sc_l_stands.nd (iListK (K := K) rfl (pv 3)) (blkOk_by (N := n_l_stands) (sc := defScope s_l_stands) (by decide +kernel)) (fun _ _ _ _ _ => (pg_name (i := 2) sc_l_stands.nd rfl (Or.inl rfl))) (fun _ _ _ _ _ => pts_nil) (fun _ _ _ _ _ => (pe_dget (Nat.lt_of_le_of_lt (Nat.add_le_add_left (by decide) _) hr.units) (pv 1) (pv 2) (fun _ _ => rfl)))) pa_nil))))) (pss_one (ps_ret pe_bl)) pss_nil)
  (pss_cons (ps_for PassesOwn.never rfl (iListK (K := K) rfl (pv 3)) (pg_name (i := 2) sc_l_stands.nd rfl (Or.inl rfl))
   (pss_one (ps_expr (pe_bm PySem.F.plainAttrs_list PySem.F.slot_list_append PySem.F.type_list_append mt_append (pe_dget (Nat.lt_of_le_of_lt (Nat.add_le_add_left (by decide) _) hr.units) (pv 5) (pv 2) (fun _ _ => rfl)) (pa_cons pe_str pa_nil)))))
  (pss_cons (ps_expr (pe_bm0 PySem.F.plainAttrs_list PySem.F.slot_list_clear PySem.F.type_list_clear mt_clear (pv 4)))
  (pss_one (ps_ret (pe_call G_l_alike (hr.mono (by decide)) (by rfl) T.g_l_alike T.F_l_alike.kp T.b_l_alike .nil pass0 (pa_cons (pe_callB (call_lenO T.me_Post___len__ G_Post___len__ (hr.mono (by decide)) T.b_Post___len__ pass0) (by rfl) T.z_len (by decide +kernel) (pa_cons (pv 0) pa_nil)) (pa_cons (pe_callB (sumK (K := K) rfl rfl) (by rfl) T.z_sum (by decide +kernel) (pa_cons (pe_lc (own := [("_law_door", 2)]) (g := (gName 2)) (tt := tYes) rfl sc_l_stands.nd (iListK (K := K) rfl (pv 3)) (blkOk_by (N := n_l_stands) (sc := defScope s_l_stands) (by decide +kernel)) (fun _ _ _ _ _ => (pg_name (i := 2) sc_l_stands.nd rfl (Or.inl rfl))) (fun _ _ _ _ _ => pts_nil) (fun _ _ _ _ _ => (pe_callB (lenK (K := K) rfl) (by rfl) T.z_len (by decide +kernel) (pa_cons (pe_dget (Nat.lt_of_le_of_lt (Nat.add_le_add_left (by decide) _) hr.units) (pv 1) (pv 2) (fun _ _ => rfl)) pa_nil)))) pa_nil)) pa_nil))))))))))), ?_⟩
    obtain ⟨rb, hb, rnd, rl, hrb⟩ := bk.ex
    have hbH := eN _ _ hb
    obtain ⟨dx, e, rs, h1, h2, _⟩ := po.ex
    -- doors
    refine ⟨b, _, hbH, True.intro, fun od => ?_⟩
    refine ⟨_, rfl, b, od, rfl, .inr ⟨_, upd_same, fun D hD => ?_⟩⟩
    have Db : D ≠ b := fun z => by rw [z, upd_same] at hD; cases hD
    generalize hHL : upd H b (.frz od (.dT (kvsOf (kv.map (·.1)) rb))) = HL at hD
    have locked : HL b = some (.frz od (.dT (kvsOf (kv.map (·.1)) rb))) := by rw [← hHL]; exact upd_same
    have into : ∀ {a : Addr} {o : HO}, H a = some o → a ≠ b → HL a = some o := fun h z => by rw [← hHL, upd_ne z]; exact h
    have lk : (kvsOf (kv.map (·.1)) rb).length = kv.length := by rw [kvs_len _ _ (by rw [List.length_map]; exact rl), List.length_map]
    refine lc_it walk_keysT (fun i H' => ∃ xs, Ex HL H' ∧ H' D = some (.lst xs) ∧ xs.length ≤ i ∧ DoorsAt H' xs (live (kv.take i))) ⟨[], Ex.new hD, upd_same, Nat.zero_le _, .nil⟩ (fun i H' _ ⟨_, ex, _⟩ => ex _ _ locked) ?_ ?_
    · rintro i x Ha Ha' hi ⟨xs, ex, hDa, lx, hx⟩ ⟨rfl, k, v, q0, hkv, rfl, hq0⟩
      obtain ⟨d, r, hd, hr', rfl, rfl⟩ := kvs_at hkv
      obtain ⟨en, hen, ys, hy, hys⟩ := paired_at hrb hr'
      have ed : en.1 = d := by
        rw [List.getElem?_map, hen] at hd
        exact Option.some.inj hd
      have hrl : Ha' r = some (.lst ys) := ex _ _ (into (eN _ _ hy) fun z => by rw [z, hb] at hy; cases hy)
      have dq : DqAll Ha' ys (laneD en.2) := dq_tups (Paired.mapP hys fun _ _ ⟨a, a1, a2⟩ => ⟨a, a1, ex _ _ (into (eB _ _ a2) (ne_of (eB _ _ a2) hbH (by intro z; cases z)))⟩)
      have lt := live_take hen
      refine ⟨rfl, _, rfl, _, rfl, b, .ref r, rfl, .inr ⟨_, keyD d, q0, .inr ⟨od, ex _ _ locked⟩, rfl, hq0, (valV_kvs bk.nd hd hr').symm⟩, Nat.zero_le _, fun f hf => ?_⟩
      have ef := Ex.new (o := .lst []) hf
      refine ⟨.list (laneD en.2), .list [], Dq.dp (.lst (ef _ _ hrl) (dq.ext ef)), Dq.dp (.lst upd_same .nil), shaped_laneD _, rfl, _, rfl, ?_⟩
      rw [eqv_laneD]
      have hx' := hx.keep fun a ys h => ef _ _ h
      cases he : en.2.isEmpty with
      | true =>
        refine iteF ⟨xs, ex.trans ef, ef _ _ hDa, by omega, ?_⟩
        rw [lt, he, if_pos rfl, List.append_nil]
        exact hx'
      | false =>
        have keep : ∀ (a : Addr) (zs : List V), (upd Ha' f (.lst [])) a = some (.tup zs) → (upd (upd Ha' f (.lst [])) D (.lst (xs ++ [.ref q0]))) a = some (.tup zs) := fun a zs h => by
          rw [upd_ne (ne_of h (ef _ _ hDa) (by intro z; cases z))]
          exact h
        have ll : kv.length ≤ 24 := by
          have := len_subD bk.nd (fun d hd => by
            obtain ⟨e, he, rfl⟩ := List.mem_map.mp hd
            exact ag.sub e he) (ys := ds)
          rw [List.length_map] at this
          omega
        refine iteT ⟨_, rfl, xs, ef _ _ hDa, len_lt (by omega), xs ++ [.ref q0], (ex.trans ef).mut hD, upd_same, by rw [List.length_append, List.length_singleton]; omega, ?_⟩
        rw [lt, he, if_neg (by decide), ed]
        exact DoorsAt.snoc (keep _ _ (ef _ _ hq0)) (hx'.keep keep)
    · rintro H' ⟨xs, ex, hDa, lx, hx⟩
      rw [lk, List.take_length] at hx
      have e2 := unlock_ex hbH (by rw [hHL]; exact ex)
      have hD2 : (upd H' b (.dT (kvsOf (kv.map (·.1)) rb))) D = some (.lst xs) := by rw [upd_ne Db]; exact hDa
      have hx2 : DoorsAt (upd H' b (.dT (kvsOf (kv.map (·.1)) rb))) xs (live kv) := hx.keep fun a ys h => by
        rw [upd_ne (ne_of h (ex _ _ locked) (by intro z; cases z))]
        exact h
      refine ⟨ex _ _ locked, ?_⟩
      generalize upd H' b (.dT (kvsOf (kv.map (·.1)) rb)) = H2 at e2 hD2 hx2 ⊢
      unfold tNil
      dsimp only
      refine sort_doors (SqL.of hD2) hx2 (live_nd bk.nd) fun z ys dd' pm so hys hz => ?_
      obtain rfl : dd' = waits ds ls := rising_eq so (dso.sublist waits_sub) fun d => pm.mem_iff.trans (agrees_doors ag bk.nd d)
      have ez := Ex.new (o := .lst ys) hz
      have e3 := e2.trans ez
      have hz3 : (upd H2 z (.lst ys)) z = some (.lst ys) := upd_same
      have hys3 := hys.keep fun a zs h => ez a _ h
      generalize upd H2 z (.lst ys) = H3 at e3 hz3 hys3
      have lW := waits_len (ds := ds) (ls := ls)
      have lys : ys.length = (waits ds ls).length := Paired.length hys3
      -- found, told
      have m3 := eM.trans e3
      refine ⟨_, rfl, p, dx, _, rfl, m3 _ _ h1, pf_no _ _ (by decide +kernel) (by decide +kernel), p, n, B, M, ds, ls, rfl, m3, po, by omega, fun F fs H4 hF e4 hF4 hf4 => ?_⟩
      have m4 := m3.trans e4
      refine ⟨_, rfl, p, dx, _, rfl, m4 _ _ h1, pf_no _ _ (by decide +kernel) (by decide +kernel), p, n, B, M, ds, ls, rfl, eB.trans (e3.trans e4), m4, po, by omega, fun l hl => by have := lane_le hl; omega, fun TD rr H5 hTD e5 hT5 rrn rrl tr => ?_⟩
      rw [rrl, List.take_of_length_le (by rw [lanes_len ag.len]; exact Nat.le_refl _)] at tr
      refine ⟨by show 2 ≤ sizeLine; decide, fun t ht => ⟨t, _, rfl, SqT.of upd_same, rfl, _, _, rfl, _, _, rfl, rfl, ?_⟩⟩
      have et := Ex.new (o := .tup [.ref F, .ref TD]) ht
      have e45 := e5.trans et
      have hF6 := e45 _ _ hF4
      have hf6 := hf4.keep fun a zs h => e45 a _ h
      have hT6 := et _ _ hT5
      have e6 := e3.trans (e4.trans e45)
      have hz6 := (e4.trans e45) _ _ hz3
      have hys6 := hys3.keep fun a zs h => (e4.trans e45) a _ h
      have tr6 := tr.keep (H' := upd H5 t (.tup [.ref F, .ref TD])) (fun a o _ h => et a o h) (fun ys z => by rw [hT5] at z; cases z)
      dsimp only
      generalize upd H5 t (.tup [.ref F, .ref TD]) = H6 at hF6 hf6 hT6 e6 hz6 hys6 tr6 e45 ⊢
      have W24 : (waits ds ls).length ≤ 1000 := by omega
      -- the doors are right
      refine ⟨_, rfl, _, rfl, .ref F, .ref z, _, rfl, .lst hF6 (dq_doors hf6), .lst hz6 (dq_doors hys6), alk_doors W24, fun H7 e7 => ⟨_, rfl, iteF ?_⟩⟩
      refine ⟨_, rfl, .ref TD, .ty "dict", .type "dict", .type "dict", true, rfl, .ty _, .base (.dT (e7 _ _ hT6)), kit_ty (by decide +kernel), _, rfl, iteF ?_⟩
      refine ⟨_, rfl, TD, _, rfl, .inl (e7 _ _ hT6), fun u bs hu hk => ?_⟩
      have eu := Ex.new (o := .lst (bs.map V.ref)) hu
      have e7u := e7.trans eu
      have hku := (keys_doors rrl hk).keep fun a zs h => eu a _ h
      refine ⟨_, rfl, .ref u, .ref z, _, rfl, .lst upd_same (dq_doors hku), .lst (e7u _ _ hz6) (dq_doors (hys6.keep fun a zs h => e7u a _ h)), alk_doors W24, fun H8 e8 => ⟨_, rfl, iteF ?_⟩⟩
      have e68 := e7u.trans e8
      refine un_next ?_
      dsimp only
      have hz8 := e68 _ _ hz6
      have hys8 := hys6.keep fun a zs h => e68 a _ h
      have hT8 := e68 _ _ hT6
      have hF8 := e68 _ _ hF6
      have tr8 := tr6.keep (H' := H8) (fun a o _ h => e68 a o h) (fun ys z => by rw [hT6] at z; cases z)
      have e8' := e6.trans e68
      have Wnd := waits_nd (ls := ls) po.nd
      have lan := lanes_len (ds := ds) (ls := ls) ag.len
      obtain ⟨yb, hyb⟩ := book_rows bk (W := waits ds ls) fun d hd => (agrees_doors ag bk.nd d).mpr hd
      have lyb : yb.length = (waits ds ls).length := Paired.length hyb
      clear hku hk hu eu e7u
      -- the rows told are right
      refine ⟨_, rfl, z, rfl, ⟨_, SqL.of hz8⟩, fun L1 hL1 => lc_it walk_list (fun i H' => Ex H8 H' ∧ H' L1 = some (.lst ((rr.map V.ref).take i))) ⟨Ex.new hL1, upd_same⟩ (fun i H' _ p => SqL.of (p.1 _ _ hz8)) ?_ ?_⟩
      · rintro i x Ha Ha' hi ⟨ex, hL⟩ ⟨rfl, hx⟩
        obtain ⟨d, hd, a, rfl, ha⟩ := paired_at hys8 hx
        have hr : rr[i]? = some (rr[i]'(by omega)) := List.getElem?_eq_getElem (by omega)
        refine ⟨rfl, un_yes (iteT ⟨_, rfl, _, rfl, TD, _, rfl, dget_door (ex _ _ hT8) (ex _ _ ha) (valV_kvs Wnd hd hr), _, hL, len_lt (by rw [List.length_take]; omega), ex.mut hL1, ?_⟩)⟩
        rw [upd_same, take_snoc (by rw [List.getElem?_map, hr]; rfl)]
      · rintro H9 ⟨ex9, hL9⟩
        rw [List.take_of_length_le (by rw [List.length_map]; omega)] at hL9
        have hz9 := ex9 _ _ hz8
        refine ⟨_, rfl, z, rfl, ⟨_, SqL.of hz9⟩, fun L2 hL2 => lc_it walk_list (fun i H' => Ex H9 H' ∧ H' L2 = some (.lst (yb.take i))) ⟨Ex.new hL2, upd_same⟩ (fun i H' _ p => SqL.of (p.1 _ _ hz9)) ?_ ?_⟩
        · rintro i x Ha Ha' hi ⟨ex, hL⟩ ⟨rfl, hx⟩
          obtain ⟨d, hd, a, rfl, ha⟩ := paired_at hys8 hx
          obtain ⟨y, hy, kvs, r, xs, b1, rfl, b3, b4, b5⟩ := paired_at0 hyb hd
          have eH := (e8'.trans ex9).trans ex
          refine ⟨rfl, un_yes (iteT ⟨_, rfl, _, rfl, b, _, rfl, dget_door (eH _ _ (eN _ _ b1)) (ex _ _ (ex9 _ _ ha)) b3, _, hL, len_lt (by rw [List.length_take]; omega), ex.mut hL2, ?_⟩)⟩
          rw [upd_same, take_snoc hy]
        · rintro H10 ⟨ex10, hL10⟩
          rw [List.take_of_length_le (by omega)] at hL10
          have e810 := ex9.trans ex10
          have eH := e8'.trans e810
          have dq1 : DqAll H10 (rr.map V.ref) ((lanesOf ls).map fun l => .list (laneD l)) := dq_told (tr8.keep (H' := H10) (fun a o _ h => e810 a o h) (fun ys z => by rw [hT8] at z; cases z))
          have dq2 : DqAll H10 yb ((lanesOf ls).map fun l => .list (laneD l)) := by
            rw [← lanes_got ag, List.map_map]
            exact dq_book hyb (fun a o h => eH a o (eN a o h)) fun a o h => eH a o (eB a o h)
          refine ⟨.ref L1, .ref L2, _, rfl, .lst (ex10 _ _ hL9) dq1, .lst hL10 dq2, alk_rows (by omega) (fun l hl => by
            have := lane_le (List.mem_filter.mp hl).1
            omega), fun H11 e11 => ⟨_, rfl, iteF ?_⟩⟩
          refine un_next ?_
          dsimp only
          have eH11 := eH.trans e11
          have e811 := e810.trans e11
          have at4 : ∀ {r : Addr}, r ∈ rr → H4 r = none ∧ r ≠ TD ∧ ∃ xs, H11 r = some (.lst xs) ∧ xs.length ≤ 900 := fun {r} hr => by
            obtain ⟨j, hj⟩ := List.mem_iff_getElem?.mp hr
            obtain ⟨l, hl, t1, t2, xs, t3, t4⟩ := paired_at tr8 hj
            refine ⟨t1, t2, xs, e811 _ _ t3, ?_⟩
            have := lane_le (List.mem_filter.mp (List.mem_of_getElem? hl)).1
            rw [Paired.length t4]
            omega
          have rz : ∀ {r : Addr}, r ∈ rr → z ≠ r ∧ F ≠ r ∧ TD ≠ r ∧ H r = none := fun {r} hr => by
            obtain ⟨t1, t2, _⟩ := at4 hr
            exact ⟨ne_of_none (e4 _ _ hz3) t1, ne_of_none hF4 t1, fun e => t2 e.symm, fresh_back (e3.trans e4) t1⟩
          -- what was told is changed
          refine ⟨_, rfl, z, rfl, ⟨_, SqL.of (e811 _ _ hz8)⟩, for_it (walk_list (xs := ys)) (fun i σ H' => ∃ y2, σ = [some (.ref p), some (.ref b), y2, some (.ref z), some (.ref F), some (.ref TD)] ∧ Ex H H' ∧ H' z = some (.lst ys) ∧ DoorsAt H' ys (waits ds ls) ∧ H' TD = some (.dT (kvsOf (waits ds ls) rr)) ∧ H' F = some (.lst fs) ∧ ∀ r ∈ rr, ∃ xs, H' r = some (.lst xs) ∧ xs.length ≤ 900 + i)
            ⟨_, rfl, eH11, e811 _ _ hz8, hys8.keep fun a zs h => e811 a _ h, e811 _ _ hT8, e811 _ _ hF8, fun r hr => (at4 hr).2.2⟩ (fun i σ H' _ ⟨_, _, _, hz, _⟩ => SqL.of hz) ?_ ?_⟩
          · rintro i x σ Ha Ha' hi ⟨y2, rfl, eA, az, ad, aT, aF, ar⟩ ⟨rfl, hx⟩
            obtain ⟨d, hd, a, rfl, ha⟩ := paired_at ad hx
            have hr : rr[i]? = some (rr[i]'(by omega)) := List.getElem?_eq_getElem (by omega)
            generalize rr[i]'(by omega) = r at hr
            have hm := List.mem_of_getElem? hr
            obtain ⟨xs, hxs, lx⟩ := ar r hm
            obtain ⟨r1, r2, r3, r4⟩ := rz hm
            refine ⟨_, rfl, _, rfl, TD, .ref r, rfl, dget_door aT ha (valV_kvs Wnd hd hr), .inl ⟨rfl, _, SqL.of hxs⟩, r, _, _, rfl, rfl, hxs, len_lt (by omega), ?_⟩
            refine ⟨_, rfl, eA.mut r4, by rw [upd_ne r1]; exact az, ad.keep fun a zs h => ?_, by rw [upd_ne r3]; exact aT, by rw [upd_ne r2]; exact aF, fun u hu => ?_⟩
            · rw [upd_ne (ne_of h hxs (by intro z; cases z))]
              exact h
            · by_cases e : u = r
              · subst e
                exact ⟨_, upd_same, by rw [List.length_append, List.length_singleton]; omega⟩
              · obtain ⟨ws, w1, w2⟩ := ar u hu
                exact ⟨ws, by rw [upd_ne e]; exact w1, by omega⟩
          · rintro σ H12 ⟨y2, rfl, eA, az, ad, aT, aF, ar⟩
            have F0 : H F = none := fresh_back e3 hF
            refine ⟨_, rfl, .inl ⟨rfl, _, SqL.of aF⟩, F, fs, rfl, rfl, aF, ?_⟩
            have e13 : Ex H (upd H12 F (.lst [])) := eA.mut F0
            have zF : z ≠ F := ne_of_none hz3 hF
            have az13 : (upd H12 F (.lst [])) z = some (.lst ys) := by rw [upd_ne zF]; exact az
            have ad13 : DoorsAt (upd H12 F (.lst [])) ys (waits ds ls) := ad.keep fun a zs h => by
              rw [upd_ne (ne_of h aF (by intro z; cases z))]
              exact h
            generalize upd H12 F (.lst []) = H13 at e13 az13 ad13 ⊢
            have m13 := eM.trans e13
            -- how many
            refine ⟨_, rfl, p, dx, _, rfl, m13 _ _ h1, p, n, B, M, ds, ls, rfl, m13, po, by omega, fun H14 e14 => ⟨(total ls : Nat), rfl, by omega, by omega, ?_⟩⟩
            refine ⟨_, rfl, z, rfl, ⟨_, SqL.of (e14 _ _ az13)⟩, fun L3 hL3 => lc_it walk_list (fun i H' => Ex H14 H' ∧ H' L3 = some (.lst ((((lanesOf ls).map fun l => (l.length : Int)).take i).map V.int))) ⟨Ex.new hL3, upd_same⟩ (fun i H' _ p => SqL.of (p.1 _ _ (e14 _ _ az13))) ?_ ?_⟩
            · rintro i x Ha Ha' hi ⟨ex, hL⟩ ⟨rfl, hx⟩
              obtain ⟨d, hd, a, rfl, ha⟩ := paired_at ad13 hx
              obtain ⟨y, hy, kvs, r, xs, b1, rfl, b3, b4, b5⟩ := paired_at0 hyb hd
              have eH := (e13.trans e14).trans ex
              have hn : ((lanesOf ls).map fun l => (l.length : Int))[i]? = some (xs.length : Int) := by
                rw [← lanes_got ag, List.map_map, List.getElem?_map, hd, Paired.length b5]
                rfl
              refine ⟨rfl, un_yes (iteT ⟨_, rfl, _, rfl, b, _, rfl, dget_door (eH _ _ (eN _ _ b1)) (ex _ _ (e14 _ _ ha)) b3, r, xs, rfl, .inl (SqL.of (eH _ _ (eN _ _ b4))), _, hL, len_lt (by rw [List.length_map, List.length_take]; omega), ex.mut hL3, ?_⟩)⟩
              rw [upd_same, take_snoc hn, List.map_append]
              rfl
            · rintro H15 ⟨ex, hL⟩
              rw [List.take_of_length_le (by rw [List.length_map]; omega)] at hL
              refine ⟨L3, _, rfl, SqL.of hL, .int _, .int _, .int (total ls : Nat), rfl, .int _, ?_, rfl, fun H16 e16 => q H16 ((e13.trans e14).trans (ex.trans e16))⟩
              rw [sum_cast, lanes_total]
              exact .int _
end
end K19

set_option maxHeartbeats 1000000
namespace K19
open PySem PySem.Spec PyProof.Rows L2 Evl MyG
/-! ### a world: what is known (B), the state that draws change (s, c), and regions that change (Rs), no two with anything in common -/
structure Wld (s c : Addr) (B : Hp) (Rs : List Hp) (H : Hp) : Prop where
  w : Wd s c B H
  ex : ∀ R ∈ Rs, Ex R H
  off : ∀ R ∈ Rs, R s = none ∧ R c = none
  dj : ∀ R ∈ Rs, Dj B R
  pw : Rs.Pairwise Dj
section
variable {s c p : Addr} {B B' M M' H H' : Hp} {Rs Rs' : List Hp} {o : HO}
theorem Wld.st (W : Wld s c B Rs H) : Sta s c H := W.w.st
theorem Wld.fresh (W : Wld s c B Rs H) (hp : H p = none) : ∀ R ∈ Rs, R p = none := fun R hR => fresh_back (W.ex R hR) hp
theorem Wld.drawn (W : Wld s c B Rs H) (st : Sta s c H') (f : Off s c H H') : Wld s c B Rs H' := ⟨W.w.off st f, fun R hR a u e => by
  obtain ⟨h1, h2⟩ := W.off R hR
  rw [f a (fun z => by rw [z, h1] at e; cases e) (fun z => by rw [z, h2] at e; cases e)]
  exact W.ex R hR a u e, W.off, W.dj, W.pw⟩
/-- nothing but the state is otherwise -/
def Kept (s c : Addr) (H H' : Hp) : Prop := ∀ a o, a ≠ s → a ≠ c → H a = some o → H' a = some o
theorem Wld.kept (W : Wld s c B Rs H) (st : Sta s c H') (f : Kept s c H H') : Wld s c B Rs H' := ⟨⟨fun a u e => f a u (fun z => by rw [z, W.w.ns] at e; cases e) (fun z => by rw [z, W.w.nc] at e; cases e) (W.w.ex a u e), W.w.ns, W.w.nc, st⟩, fun R hR a u e => by
  obtain ⟨h1, h2⟩ := W.off R hR
  exact f a u (fun z => by rw [z, h1] at e; cases e) (fun z => by rw [z, h2] at e; cases e) (W.ex R hR a u e), W.off, W.dj, W.pw⟩
theorem Wld.ext (W : Wld s c B Rs H) (e : Ex H H') : Wld s c B Rs H' := ⟨W.w.ext e, fun R hR => (W.ex R hR).trans e, W.off, W.dj, W.pw⟩
theorem Wld.know (W : Wld s c B Rs H) (hp : H p = some o) (hs : p ≠ s) (hc : p ≠ c) (hR : ∀ R ∈ Rs, R p = none) : Wld s c (upd B p o) Rs H := ⟨W.w.know hp hs hc, W.ex, W.off, fun R h a => by
  by_cases z : a = p
  · rw [z]
    exact .inr (hR R h)
  · rw [upd_ne z]
    exact W.dj R h a, W.pw⟩
theorem Wld.newK (W : Wld s c B Rs H) (hp : H p = none) : Wld s c (upd B p o) Rs (upd H p o) := (W.ext (Ex.new hp)).know upd_same (W.st.ne_s hp) (W.st.ne_c hp) (W.fresh hp)
/-- what is new becomes known -/
theorem Wld.knew (W : Wld s c B Rs H) (e : Ex H H') (hp : H p = none) (hp' : H' p = some o) : Wld s c (upd B p o) Rs H' := (W.ext e).know hp' (W.st.ne_s hp) (W.st.ne_c hp) (W.fresh hp)
theorem Wld.none (W : Wld s c B Rs H) (hp : H p = none) : B p = none := W.w.none_of hp
theorem Wld.perm (W : Wld s c B Rs H) (pm : Rs.Perm Rs') : Wld s c B Rs' H := ⟨W.w, fun R h => W.ex R (pm.mem_iff.mpr h), fun R h => W.off R (pm.mem_iff.mpr h), fun R h => W.dj R (pm.mem_iff.mpr h), (pm.pairwise_iff fun h => h.symm).mp W.pw⟩
theorem Wld.drop (W : Wld s c B (M :: Rs) H) : Wld s c B Rs H := ⟨W.w, fun R h => W.ex R (List.mem_cons_of_mem _ h), fun R h => W.off R (List.mem_cons_of_mem _ h), fun R h => W.dj R (List.mem_cons_of_mem _ h), (List.pairwise_cons.mp W.pw).2⟩
theorem Wld.swap (W : Wld s c B (M :: M' :: Rs) H) : Wld s c B (M' :: M :: Rs) H := W.perm (List.Perm.swap _ _ _)
theorem Dj.chg {N : Hp} (d : Dj N M) (e : Ex N H) (ch : Chg M M' H H') : Dj N M' := (ch.keep d e).2
theorem Wld.chg (W : Wld s c B (M :: Rs) H) (ch : Chg M M' H H') : Wld s c B (M' :: Rs) H' := by
  have hM : M ∈ M :: Rs := List.mem_cons_self ..
  obtain ⟨ms, mc⟩ := W.off M hM
  have pw := List.pairwise_cons.mp W.pw
  have out : ∀ {a : Addr} {o : HO}, M a = Option.none → H a = some o → M' a = Option.none := fun {a o} h1 h2 => by
    cases q : M' a with
    | none => rfl
    | some u =>
      rcases ch.fresh a (by rw [q]; exact fun z => by cases z) with k | k
      · exact absurd h1 k
      · rw [k] at h2
        cases h2
  obtain ⟨so, hs⟩ := W.st.s_some
  obtain ⟨co, hc⟩ := W.st.c_some
  have sta : Sta s c H' := ⟨W.st.ne, by
    obtain ⟨cells, i, j, h1, h2, r⟩ := W.st.ex
    exact ⟨cells, i, j, ch.frame _ _ ms h1, ch.frame _ _ mc h2, r⟩⟩
  refine ⟨⟨(ch.keep (W.dj M hM) W.w.ex).1, W.w.ns, W.w.nc, sta⟩, fun R hR => ?_, fun R hR => ?_, fun R hR => ?_, List.pairwise_cons.mpr ⟨fun R hR => ?_, pw.2⟩⟩
  · rcases List.mem_cons.mp hR with rfl | hR
    · exact ch.now
    · exact (ch.keep (pw.1 R hR).symm (W.ex R (List.mem_cons_of_mem _ hR))).1
  · rcases List.mem_cons.mp hR with rfl | hR
    · exact ⟨out ms hs, out mc hc⟩
    · exact W.off R (List.mem_cons_of_mem _ hR)
  · rcases List.mem_cons.mp hR with rfl | hR
    · exact (ch.keep (W.dj M hM) W.w.ex).2
    · exact W.dj R (List.mem_cons_of_mem _ hR)
  · exact ((ch.keep (pw.1 R hR).symm (W.ex R (List.mem_cons_of_mem _ hR))).2).symm
theorem Wld.emp (W : Wld s c B Rs H) : Wld s c B (emp :: Rs) H := by
  refine ⟨W.w, fun R h => ?_, fun R h => ?_, fun R h => ?_, List.pairwise_cons.mpr ⟨fun R h a => .inl rfl, W.pw⟩⟩
  all_goals rcases List.mem_cons.mp h with rfl | h
  · exact fun a o z => by cases z
  · exact W.ex R h
  · exact ⟨rfl, rfl⟩
  · exact W.off R h
  · exact fun a => .inr rfl
  · exact W.dj R h
/-- new objects as a region -/
theorem Wld.add (W : Wld s c B Rs H) (ch : Chg K19.emp M' H H') : Wld s c B (M' :: Rs) H' := W.emp.chg ch
theorem Wld.one (W : Wld s c B Rs H) (hp : H p = Option.none) : Wld s c B (upd K19.emp p o :: Rs) (upd H p o) := W.add (Chg.new (fun a o z => by cases z) hp)
theorem Wld.less (W : Wld s c B' Rs H) (e : Ex B B') : Wld s c B Rs H := ⟨⟨e.trans W.w.ex, fresh_back e W.w.ns, fresh_back e W.w.nc, W.w.st⟩, W.ex, W.off, fun R h a => by
  rcases W.dj R h a with z | z
  · exact .inl (fresh_back e z)
  · exact .inr z, W.pw⟩
end
end K19

set_option maxHeartbeats 2000000
namespace K19
open PySem PySem.Spec PyProof.Rows L2 Evl MyG
/-- all but the state -/
def beside (s c : Addr) (H : Hp) : Hp := fun a => if a = s ∨ a = c then none else H a
theorem beside_some {s c a : Addr} {H : Hp} {o : HO} (h1 : a ≠ s) (h2 : a ≠ c) (h : H a = some o) : beside s c H a = some o := by
  unfold beside
  rw [if_neg (by intro z; rcases z with z | z <;> contradiction)]
  exact h
theorem beside_none {s c a : Addr} {H : Hp} (h : beside s c H a = none) (h1 : a ≠ s) (h2 : a ≠ c) : H a = none := by
  unfold beside at h
  rwa [if_neg (by intro z; rcases z with z | z <;> contradiction)] at h
theorem beside_wd {s c : Addr} {H : Hp} (st : Sta s c H) : Wd s c (beside s c H) H := by
  refine ⟨fun a o h => ?_, ?_, ?_, st⟩
  · unfold beside at h
    split at h
    · cases h
    · exact h
  · unfold beside; rw [if_pos (.inl rfl)]
  · unfold beside; rw [if_pos (.inr rfl)]
/-! ### letters drawn -/
def sp_letterN : Sp := fun vs H Q _ => ∃ (s c : Addr), vs = [.ref s] ∧ Sta s c H ∧ ∀ l t H', H t = none → H' t = some (.tup (Lt.vs l)) → Sta s c H' → Kept s c H H' → Q (.ref t) H'
section
variable {P : Program} {w : World} {K : PySem.W.Frag} {mg : Str → Option Value} {base : Heap}
theorem ok_letterN (T : Tx K mg) : FnOk P w K mg base CX0 2 T.a_l_letter T.d_l_letter ["_law_state_here"] sp_letterN := by
  have G_l_draw := ok_draw (P := P) (w := w) (base := base) T
  refine T.F_l_letter.ok sc_l_letter (fun vs H Q E h => ?_) (fun cdv A outer s H vs Q E hr h => ?_)
  · obtain ⟨_, _, rfl, _⟩ := h
    rfl
  · obtain ⟨s, c, rfl, st0, q⟩ := h
    have W : Wd s c (beside s c H) H := beside_wd st0
    generalize hB0 : beside s c H = B at W
    refine ⟨_, (pss_cons (ps_set (i := 1) sc_l_letter.nd rfl (Or.inr rfl) (pe_lst (pa_cons pe_int (pa_cons pe_int (pa_cons pe_int (pa_cons pe_int (pa_cons pe_int (pa_cons (pe_op op_add pe_int (pe_call G_l_draw (hr.mono (by decide)) (by rfl) T.g_l_draw T.F_l_draw.kp T.b_l_draw .nil pass0 (pa_cons (pv 0) (pa_cons pe_int pa_nil)))) (pa_cons (pe_op op_pow pe_int pe_int) pa_nil)))))))))
  (pss_cons (ps_setLc (i := 2) (own := [("_law_k", 3)]) (g := (gName 3)) (tt := tYes) rfl sc_l_letter.nd rfl rfl (sw_true rfl rfl rfl (by decide +kernel)) (pi_range1 rfl T.z_range (pa_cons pe_int pa_nil)) (blkOk_by (N := n_l_letter) (sc := defScope s_l_letter) (by decide +kernel)) (fun _ _ _ _ _ => (pg_name (i := 3) sc_l_letter.nd rfl (Or.inl rfl))) (fun _ _ _ _ _ => pts_nil) (fun _ _ _ _ _ => (pe_ix (ix_listK (K := K) rfl) (pv 1) (pe_call G_l_draw (hr.mono (by decide)) (by rfl) T.g_l_draw T.F_l_draw.kp T.b_l_draw .nil pass0 (pa_cons (pv 0) (pa_cons pe_int pa_nil))) (fun _ _ => rfl))))
  (pss_one (ps_ret (pe_ifExp (pt_cmpR op_eq (pe_call G_l_draw (hr.mono (by decide)) (by rfl) T.g_l_draw T.F_l_draw.kp T.b_l_draw .nil pass0 (pa_cons (pv 0) (pa_cons pe_int pa_nil))) pe_int (nomark _)) (pe_tup (pa_cons pe_str (pa_cons (pe_ix (ix_listK (K := K) rfl) (pv 2) pe_int (fun _ _ => rfl)) pa_nil))) (pe_tup (pa_cons pe_str (pa_cons (pe_ix (ix_listK (K := K) rfl) (pv 2) pe_int (fun _ _ => rfl)) (pa_cons (pe_ix (ix_listK (K := K) rfl) (pv 2) pe_int (fun _ _ => rfl)) (pa_cons (pe_ix (ix_listK (K := K) rfl) (pv 2) pe_int (fun _ _ => rfl)) pa_nil)))))))))), ?_⟩
    refine ⟨_, rfl, s, c, 400, rfl, W.st, by decide, by decide, fun r H1 r0 r1 st1 off1 => ⟨_, _, rfl, rfl, 10, 30, rfl, rfl, ⟨by decide, by decide, by decide⟩, by show 7 ≤ sizeLine; decide, fun a ha => ?_⟩⟩
    have W1 := W.off st1 off1
    have W2 := (W1.ext (Ex.new (o := .lst (([1, 2, 3, 0, 999, 1 + r, 10 ^ 30] : List Int).map V.int)) ha)).know upd_same (W1.st.ne_s ha) (W1.st.ne_c ha)
    have hB : B a = none := W1.none_of ha
    have eB2 : Ex B (upd B a (.lst (([1, 2, 3, 0, 999, 1 + r, 10 ^ 30] : List Int).map V.int))) := ex_know hB
    have ha2 : (upd B a (.lst (([1, 2, 3, 0, 999, 1 + r, 10 ^ 30] : List Int).map V.int))) a = some (.lst (([1, 2, 3, 0, 999, 1 + r, 10 ^ 30] : List Int).map V.int)) := upd_same
    generalize upd B a (.lst (([1, 2, 3, 0, 999, 1 + r, 10 ^ 30] : List Int).map V.int)) = B2 at W2 eB2 ha2
    refine ⟨3, rfl, by decide, by decide, fun D hD => lc_range (lo := 0) (n := 3) (fun i H' => ∃ xs : List Int, Wd s c B2 H' ∧ H' D = some (.lst (xs.map V.int)) ∧ xs.length = i) ⟨[], W2.ext (Ex.new hD), upd_same, rfl⟩ ?_ ?_⟩
    · rintro i H3 hi ⟨xs, W3, hD3, hl⟩
      refine ⟨rfl, un_yes (iteT ⟨_, rfl, _, rfl, s, c, 7, rfl, W3.st, by decide, by decide, fun z H4 z0 z1 st4 off4 => ?_⟩)⟩
      have W4 := W3.off st4 off4
      obtain ⟨x, hx, hxa, hxm⟩ := ints_at (ns := [1, 2, 3, 0, 999, 1 + r, 10 ^ 30]) z0 (by show z < 7; exact z1)
      have hD4 := (off4 D (W2.st.ne_s hD) (W2.st.ne_c hD)).trans hD3
      refine ⟨a, _, z, _, rfl, rfl, SqL.of (W4.ex _ _ ha2), hxa, _, hD4, by rw [List.length_map, hl]; exact Nat.lt_of_lt_of_le hi (by decide), xs ++ [x], W4.mut (W2.none_of hD) (W2.st.ne_s hD) (W2.st.ne_c hD), ?_, by rw [List.length_append, hl]; rfl⟩
      rw [upd_same, List.map_append]
      rfl
    · rintro H5 ⟨xs, W5, hD5, hl⟩
      obtain ⟨n, k, f, rfl⟩ : ∃ n k f, xs = [n, k, f] := by
        match xs, hl with
        | [n, k, f], _ => exact ⟨n, k, f, rfl⟩
      have W6 := W5.know hD5 (W2.st.ne_s hD) (W2.st.ne_c hD)
      have e6 : Ex B2 (upd B2 D (.lst ([n, k, f].map V.int))) := ex_know (W2.none_of hD)
      have hD6 : (upd B2 D (.lst ([n, k, f].map V.int))) D = some (.lst ([n, k, f].map V.int)) := upd_same
      generalize upd B2 D (.lst ([n, k, f].map V.int)) = B6 at W6 e6 hD6
      have fin : ∀ (l : Lt) (t : Addr) {H7 H8 : Hp}, Wd s c B6 H7 → H7 t = none → Ex H7 H8 → H8 t = some (.tup l.vs) → Q (.ref t) H8 := fun l t {H7 H8} W7 ht e8 h8 => by
        have eB : Ex B H7 := (eB2.trans e6).trans W7.ex
        have z := fresh_back eB ht
        have zs := W7.st.ne_s ht
        have zc := W7.st.ne_c ht
        rw [← hB0] at z eB
        refine q l t H8 (beside_none z zs zc) h8 (W7.st.ext e8) fun a o as ac ha => e8 a o (eB a o (beside_some as ac ha))
      refine ⟨_, rfl, s, c, 2, rfl, W6.st, by decide, by decide, fun z H7 z0 z1 st7 off7 => ⟨rfl, _, rfl, ite2 (fun _ => ?_) (fun _ => ?_)⟩⟩
      all_goals have W7 := W6.off st7 off7
      all_goals have hD7 := W7.ex _ _ hD6
      · refine go_U (eu_tup (ea_cons ev_c (ea_cons (ev_op (ev_var rfl) ev_c (rv_ixL (SqL.of hD7) (atI_nat (j := 0) rfl))) ea_nil)) (by show 2 ≤ 100000; decide)) fun t H8 ht e8 h8 => ?_
        exact fin (.agree n) t W7 ht e8 h8
      · refine go_U (eu_tup (ea_cons ev_c (ea_cons (ev_op (ev_var rfl) ev_c (rv_ixL (SqL.of hD7) (atI_nat (j := 0) rfl))) (ea_cons (ev_op (ev_var rfl) ev_c (rv_ixL (SqL.of hD7) (atI_nat (j := 1) rfl))) (ea_cons (ev_op (ev_var rfl) ev_c (rv_ixL (SqL.of hD7) (atI_nat (j := 2) rfl))) ea_nil)))) (by show 4 ≤ 100000; decide)) fun t H8 ht e8 h8 => ?_
        exact fin (.say n k f) t W7 ht e8 h8
end
end K19

set_option maxHeartbeats 1000000
namespace K19
open PySem PySem.Spec PyProof.Rows L2 Evl MyG
/-! ### books changed -/
def putB : List (Door × List Lt) → Door → List Lt → List (Door × List Lt)
  | [], d, l => [(d, l)]
  | e :: kv, d, l => if e.1 = d then (d, l) :: kv else e :: putB kv d l
def putR (f : Addr) : List (Door × List Lt) → List Addr → Door → List Addr
  | [], _, _ => [f]
  | _ :: _, [], _ => [f]
  | e :: kv, r :: rs, d => if e.1 = d then f :: rs else r :: putR f kv rs d
theorem putB_in {d : Door} {l : List Lt} : ∀ {kv : List (Door × List Lt)}, d ∈ kv.map (·.1) → (putB kv d l).map (·.1) = kv.map (·.1)
  | [], h => by simp at h
  | e :: kv, h => by
    unfold putB
    by_cases z : e.1 = d
    · rw [if_pos z, List.map_cons, List.map_cons, z]
    · rw [if_neg z, List.map_cons, List.map_cons, putB_in (by
        rcases List.mem_cons.mp h with q | q
        · exact absurd q.symm z
        · exact q)]
theorem putB_out {d : Door} {l : List Lt} : ∀ {kv : List (Door × List Lt)}, ¬ d ∈ kv.map (·.1) → (putB kv d l).map (·.1) = kv.map (·.1) ++ [d]
  | [], _ => rfl
  | e :: kv, h => by
    unfold putB
    have z : ¬ e.1 = d := fun q => h (by rw [← q]; exact List.mem_cons_self ..)
    rw [if_neg z, List.map_cons, List.map_cons, putB_out fun q => h (List.mem_cons_of_mem _ q)]
    rfl
theorem putR_in {f : Addr} {d : Door} : ∀ {kv : List (Door × List Lt)} {rs : List Addr} {i : Nat}, (kv.map (·.1)).Nodup → rs.length = kv.length → (kv.map (·.1))[i]? = some d → putR f kv rs d = rs.set i f
  | [], _, _, _, _, h => by simp at h
  | _ :: _, [], _, _, h, _ => by simp at h
  | e :: kv, r :: rs, 0, nd, hl, h => by
    have z : e.1 = d := by simpa using h
    unfold putR
    rw [if_pos z]
    rfl
  | e :: kv, r :: rs, i + 1, nd, hl, h => by
    rw [List.map_cons, List.nodup_cons] at nd
    have h : (kv.map (·.1))[i]? = some d := by simpa using h
    have z : ¬ e.1 = d := fun q => nd.1 (by rw [q]; exact List.mem_of_getElem? h)
    unfold putR
    rw [if_neg z, putR_in nd.2 (by simpa using hl) h]
    rfl
theorem putR_out {f : Addr} {d : Door} : ∀ {kv : List (Door × List Lt)} {rs : List Addr}, rs.length = kv.length → ¬ d ∈ kv.map (·.1) → putR f kv rs d = rs ++ [f]
  | [], [], _, _ => rfl
  | [], _ :: _, h, _ => by simp at h
  | _ :: _, [], h, _ => by simp at h
  | e :: kv, r :: rs, hl, h => by
    unfold putR
    have z : ¬ e.1 = d := fun q => h (by rw [← q]; exact List.mem_cons_self ..)
    rw [if_neg z, putR_out (by simpa using hl) fun q => h (List.mem_cons_of_mem _ q)]
    rfl
theorem putR_mem {f x : Addr} {d : Door} : ∀ {kv : List (Door × List Lt)} {rs : List Addr}, x ∈ putR f kv rs d → x = f ∨ x ∈ rs
  | [], _, h => .inl (by simpa [putR] using h)
  | _ :: _, [], h => .inl (by simpa [putR] using h)
  | e :: kv, r :: rs, h => by
    unfold putR at h
    split at h
    · rcases List.mem_cons.mp h with q | q
      · exact .inl q
      · exact .inr (List.mem_cons_of_mem _ q)
    · rcases List.mem_cons.mp h with q | q
      · exact .inr (by rw [q]; exact List.mem_cons_self ..)
      · rcases putR_mem q with q | q
        · exact .inl q
        · exact .inr (List.mem_cons_of_mem _ q)
theorem putR_nd {f : Addr} {d : Door} : ∀ {kv : List (Door × List Lt)} {rs : List Addr}, rs.Nodup → ¬ f ∈ rs → (putR f kv rs d).Nodup
  | [], _, _, _ => by simp [putR]
  | _ :: _, [], _, _ => by simp [putR]
  | e :: kv, r :: rs, h, hf => by
    rw [List.nodup_cons] at h
    unfold putR
    split
    · exact List.nodup_cons.mpr ⟨fun z => hf (List.mem_cons_of_mem _ z), h.2⟩
    · refine List.nodup_cons.mpr ⟨fun z => ?_, putR_nd h.2 fun z => hf (List.mem_cons_of_mem _ z)⟩
      rcases putR_mem z with z | z
      · exact hf (by rw [← z]; exact List.mem_cons_self ..)
      · exact h.1 z
theorem put_paired {Pd : Addr → (Door × List Lt) → Prop} {f : Addr} {d : Door} {l : List Lt} (hf : Pd f (d, l)) : ∀ {rs : List Addr} {kv : List (Door × List Lt)}, Paired Pd rs kv → Paired Pd (putR f kv rs d) (putB kv d l)
  | _, _, .nil => .cons hf .nil
  | _, _, @Paired.cons _ _ _ r e rs kv h t => by
    unfold putR putB
    split
    · exact .cons hf t
    · exact .cons h (put_paired hf t)
theorem put_book {f : Addr} {d : Door} {l : List Lt} {kv : List (Door × List Lt)} {rs : List Addr} (hl : rs.length = kv.length) (nd : (kv.map (·.1)).Nodup) :
    putK (kvsOf (kv.map (·.1)) rs) (keyD d) (.ref f) = kvsOf ((putB kv d l).map (·.1)) (putR f kv rs d) := by
  by_cases h : d ∈ kv.map (·.1)
  · obtain ⟨i, hi⟩ := List.mem_iff_getElem?.mp h
    rw [put_kvs nd hi (by rw [List.length_map]; exact hl), putB_in h, putR_in nd hl hi]
  · rw [kvs_snoc (by rw [List.length_map]; exact hl) h, putB_out h, putR_out hl h]
theorem putB_nd {kv : List (Door × List Lt)} {d : Door} {l : List Lt} (nd : (kv.map (·.1)).Nodup) : ((putB kv d l).map (·.1)).Nodup := by
  by_cases h : d ∈ kv.map (·.1)
  · rw [putB_in h]; exact nd
  · rw [putB_out h]
    exact List.nodup_append.mpr ⟨nd, by simp, fun a ha b hb => by
      rw [List.mem_singleton] at hb
      rintro rfl
      exact h (by rw [← hb]; exact ha)⟩
theorem BookAt.put {B N H : Hp} {b f : Addr} {kv : List (Door × List Lt)} {d : Door} {xs : List V} {l : List Lt} (h : BookAt B N b kv) (eN : Ex N H) (hf : H f = none) (hx : TupsAt B xs l) :
    ∃ kvs, N b = some (.dT kvs) ∧ kvs.length = kv.length ∧ BookAt B (upd (upd N f (.lst xs)) b (.dT (putK kvs (keyD d) (.ref f)))) b (putB kv d l) := by
  obtain ⟨rs, h1, h2, h3, h4⟩ := h.ex
  have nf : ∀ {a : Addr} {o : HO}, N a = some o → a ≠ f := fun ha z => by
    have := eN _ _ ha
    rw [z, hf] at this
    cases this
  refine ⟨_, h1, by rw [kvs_len _ _ (by rw [List.length_map]; exact h3), List.length_map], ⟨putR f kv rs d, by rw [upd_same, put_book h3 h.nd], putR_nd h2 fun hm => ?_, ?_, ?_⟩, putB_nd h.nd⟩
  · obtain ⟨i, hi⟩ := List.mem_iff_getElem?.mp hm
    obtain ⟨e, he, ys, hy, _⟩ := paired_at h4 hi
    exact nf hy rfl
  · by_cases m : d ∈ kv.map (·.1)
    · obtain ⟨i, hi⟩ := List.mem_iff_getElem?.mp m
      have := congrArg List.length (putB_in (l := l) m)
      rw [List.length_map, List.length_map] at this
      rw [putR_in h.nd h3 hi, List.length_set, this, h3]
    · have := congrArg List.length (putB_out (l := l) m)
      rw [List.length_map, List.length_append, List.length_map] at this
      rw [putR_out h3 m, List.length_append, this, h3]
      rfl
  · have fb : f ≠ b := (nf h1).symm
    refine put_paired ⟨xs, by rw [upd_ne fb, upd_same], hx⟩ (Paired.mapP h4 fun r e ⟨ys, a1, a2⟩ => ⟨ys, ?_, a2⟩)
    rw [upd_ne (ne_of a1 h1 (by intro z; cases z)), upd_ne (nf a1)]
    exact a1
theorem got_nil (d : Door) : got [] d = [] := rfl
theorem got_cons (e : Door × List Lt) (kv : List (Door × List Lt)) (d : Door) : got (e :: kv) d = if e.1 = d then e.2 else got kv d := by
  unfold got
  by_cases z : e.1 = d
  · rw [List.find?_cons_of_pos (by simpa using z), if_pos z]; rfl
  · rw [List.find?_cons_of_neg (by simpa using z), if_neg z]
theorem got_put {d d' : Door} {l : List Lt} : ∀ {kv : List (Door × List Lt)}, got (putB kv d l) d' = if d = d' then l else got kv d'
  | [] => by unfold putB; rw [got_cons]
  | e :: kv => by
    unfold putB
    by_cases z : e.1 = d
    · rw [if_pos z, got_cons, got_cons]
      by_cases y : d = d'
      · rw [if_pos y, if_pos y]
      · rw [if_neg y, if_neg y, if_neg (by rw [z]; exact y)]
    · rw [if_neg z, got_cons, got_cons, got_put]
      by_cases x : e.1 = d'
      · rw [if_pos x, if_pos x, if_neg fun q => z (x.trans q.symm)]
      · rw [if_neg x, if_neg x]
theorem putB_mem {d : Door} {l : List Lt} {kv : List (Door × List Lt)} {x : Door} (h : x ∈ (putB kv d l).map (·.1)) : x = d ∨ x ∈ kv.map (·.1) := by
  by_cases m : d ∈ kv.map (·.1)
  · rw [putB_in m] at h
    exact .inr h
  · rw [putB_out m, List.mem_append, List.mem_singleton] at h
    exact h.symm
theorem Agrees.put {ds : List Door} {ls : List (List Lt)} {kv : List (Door × List Lt)} {i : Nat} {d : Door} {l : List Lt} (h : Agrees ds ls kv) (nd : ds.Nodup) (hd : ds[i]? = some d) : Agrees ds (ls.set i l) (putB kv d l) := by
  refine ⟨fun e he => ?_, fun j d' l' hj hl => ?_, by rw [List.length_set]; exact h.len⟩
  · rcases putB_mem (List.mem_map.mpr ⟨e, he, rfl⟩) with q | q
    · rw [q]; exact List.mem_of_getElem? hd
    · obtain ⟨e', h1, h2⟩ := List.mem_map.mp q
      rw [← h2]
      exact h.sub e' h1
  · have hi := (List.getElem?_eq_some_iff.mp hd).1
    rw [got_put]
    by_cases z : i = j
    · subst z
      rw [hd] at hj
      rw [List.getElem?_set_self (by rw [h.len]; exact hi)] at hl
      rw [if_pos (Option.some.inj hj), Option.some.inj hl]
    · rw [List.getElem?_set_ne z] at hl
      rw [if_neg fun q => z ?_]
      · exact h.got j d' l' hj hl
      · have hj' := (List.getElem?_eq_some_iff.mp hj).1
        refine (List.getElem_inj nd (h₀ := hi) (h₁ := hj')).mp ?_
        rw [(List.getElem?_eq_some_iff.mp hd).2, (List.getElem?_eq_some_iff.mp hj).2, q]
theorem total_set : ∀ {ls : List (List Lt)} {i : Nat} {l : List Lt} (l' : List Lt), ls[i]? = some l → total (ls.set i l') + l.length = total ls + l'.length
  | [], _, _, _, h => by simp at h
  | a :: ls, 0, l, l', h => by
    obtain rfl : a = l := by simpa using h
    show ((l' :: ls).map List.length).sum + a.length = ((a :: ls).map List.length).sum + l'.length
    rw [List.map_cons, List.sum_cons, List.map_cons, List.sum_cons]
    omega
  | a :: ls, i + 1, l, l', h => by
    have ih := total_set l' (show ls[i]? = some l by simpa using h)
    show ((a :: ls.set i l').map List.length).sum + l.length = ((a :: ls).map List.length).sum + l'.length
    unfold total at ih
    rw [List.map_cons, List.sum_cons, List.map_cons, List.sum_cons]
    omega
/-- the places of a link's doors -/
theorem doors_at : ∀ {rs : List Row} {k j : Nat} {r : Row}, rs[j]? = some r → (doorsFrom k rs)[2 * j]? = some (((k + j : Nat) : Int), lo r) ∧ (doorsFrom k rs)[2 * j + 1]? = some (((k + j : Nat) : Int), hi r)
  | [], _, _, _, h => by simp at h
  | r0 :: rs, k, 0, r, h => by
    obtain rfl : r0 = r := by simpa using h
    exact ⟨rfl, rfl⟩
  | r0 :: rs, k, j + 1, r, h => by
    have ih := doors_at (k := k + 1) (show rs[j]? = some r by simpa using h)
    rw [show k + (j + 1) = k + 1 + j by omega]
    exact ih
theorem doors_fst : ∀ {rs : List Row} {k i : Nat} {d : Door}, (doorsFrom k rs)[i]? = some d → d.1 = ((k + i / 2 : Nat) : Int)
  | [], _, _, _, h => by simp [doorsFrom] at h
  | r0 :: rs, k, 0, d, h => by
    have : d = ((k : Int), lo r0) := by simpa [doorsFrom] using h.symm
    rw [this]
    rfl
  | r0 :: rs, k, 1, d, h => by
    have : d = ((k : Int), hi r0) := by simpa [doorsFrom] using h.symm
    rw [this]
    rfl
  | r0 :: rs, k, i + 2, d, h => by
    have ih := doors_fst (k := k + 1) (show (doorsFrom (k + 1) rs)[i]? = some d by simpa [doorsFrom] using h)
    rw [ih]
    omega
end K19

set_option maxHeartbeats 1000000
namespace K19
open PySem PySem.Spec PyProof.Rows L2 Evl MyG
theorem NetAt.mono {C n : Addr} {B B' : Hp} {ps qs : List Int} {rs : List Row} (e : Ex B B') (h : NetAt C B n ps qs rs) : NetAt C B' n ps qs rs :=
  ⟨let ⟨dx, h', r, l, ts, h1, h2, h3, h4, h5⟩ := h.ex; ⟨dx, h', r, l, ts, e _ _ h1, e _ _ h2, e _ _ h3, e _ _ h4, h5.mono e⟩, h.pm, h.so⟩
/-- a post and the book kept beside it -/
structure Duo (C S A : Addr) (B M N : Hp) (p n b : Addr) (ds : List Door) (ls : List (List Lt)) (kv : List (Door × List Lt)) : Prop where
  po : PostAt C S A B M p n ds ls
  bk : BookAt B N b kv
  ag : Agrees ds ls kv
theorem PostAt.ext {C S A : Addr} {B B' M : Hp} {p n : Addr} {ds : List Door} {ls : List (List Lt)} (e : Ex B B') (h : PostAt C S A B M p n ds ls) : PostAt C S A B' M p n ds ls := by
  obtain ⟨dx, z, rs, h1, h2, h3, h4, h5⟩ := h.ex
  exact ⟨⟨dx, z, rs, h1, h2, h3, h4, Paired.mapP h5 fun r l ⟨xs, a1, a2⟩ => ⟨xs, a1, Paired.mapP a2 fun x t ⟨a, b1, b2⟩ => ⟨a, b1, b2.ext e⟩⟩⟩, h.nd⟩
theorem BookAt.ext {B B' N : Hp} {b : Addr} {kv : List (Door × List Lt)} (e : Ex B B') (h : BookAt B N b kv) : BookAt B' N b kv := by
  obtain ⟨rs, h1, h2, h3, h4⟩ := h.ex
  exact ⟨⟨rs, h1, h2, h3, Paired.mapP h4 fun r l ⟨xs, a1, a2⟩ => ⟨xs, a1, a2.ext e⟩⟩, h.nd⟩
theorem Duo.ext {C S A : Addr} {B B' M N : Hp} {p n b : Addr} {ds : List Door} {ls : List (List Lt)} {kv : List (Door × List Lt)} (e : Ex B B') (h : Duo C S A B M N p n b ds ls kv) : Duo C S A B' M N p n b ds ls kv := ⟨h.po.ext e, h.bk.ext e, h.ag⟩
theorem valV_out : ∀ {ds : List Door} {rs : List Addr} {d : Door}, ¬ d ∈ ds → valV (kvsOf ds rs) (keyD d) = none
  | [], _, _, _ => by simp [kvsOf, valV_nil]
  | _ :: _, [], _, _ => by simp [kvsOf, valV_nil]
  | d0 :: ds, r0 :: rs, d, h => by
    show valV ((keyD d0, V.ref r0) :: kvsOf ds rs) (keyD d) = _
    rw [valV_neg fun e => h (by rw [keyD_inj e]; exact List.mem_cons_self ..)]
    exact valV_out fun q => h (List.mem_cons_of_mem _ q)
theorem got_out : ∀ {kv : List (Door × List Lt)} {d : Door}, ¬ d ∈ kv.map (·.1) → got kv d = []
  | [], _, _ => rfl
  | e :: kv, d, h => by
    rw [got_cons, if_neg fun q => h (by rw [← q]; exact List.mem_cons_self ..)]
    exact got_out fun q => h (List.mem_cons_of_mem _ q)
theorem book_get {B N H : Hp} {b f : Addr} {kv : List (Door × List Lt)} {d : Door} (bk : BookAt B N b kv) (eN : Ex N H) (hf : H f = some (.lst [])) :
    ∃ kvs u xs, H b = some (.dT kvs) ∧ (valV kvs (keyD d)).getD (.ref f) = .ref u ∧ H u = some (.lst xs) ∧ TupsAt B xs (got kv d) := by
  by_cases m : d ∈ kv.map (·.1)
  · obtain ⟨e, he, hd⟩ := List.mem_map.mp m
    obtain ⟨j, hj⟩ := List.mem_iff_getElem?.mp he
    obtain ⟨kvs, r, xs, h1, h2, h3, h4⟩ := bk.row (d := e.1) (l := e.2) hj
    rw [hd] at h2
    refine ⟨kvs, r, xs, eN _ _ h1, by rw [h2]; rfl, eN _ _ h3, ?_⟩
    rw [got_at (l := e.2) bk.nd (by rw [hj, ← hd])]
    exact h4
  · obtain ⟨rb, hb, _⟩ := bk.ex
    refine ⟨_, f, [], eN _ _ hb, by rw [valV_out m]; rfl, hf, ?_⟩
    rw [got_out m]
    exact .nil
theorem LtAt.know {S A p : Addr} {H : Hp} {l : Lt} (h : LtAt S A H p l) : ∃ o, H p = some o ∧ ∀ B : Hp, LtAt S A (upd B p o) p l := by
  cases l with
  | say n r f => obtain ⟨dx, h⟩ := h; exact ⟨_, h, fun B => ⟨dx, upd_same⟩⟩
  | agree n => obtain ⟨dx, h⟩ := h; exact ⟨_, h, fun B => ⟨dx, upd_same⟩⟩
theorem door_ix {rs : List Row} {k : Nat} {r : Row} {h : Int} (hk : rs[k]? = some r) (ne : r.1 ≠ r.2.1) (ho : h = r.1 ∨ h = r.2.1) : ∃ i : Nat, (doorsFrom 0 rs)[i]? = some ((k : Int), if h = r.1 then r.2.1 else r.1) := by
  obtain ⟨a, b⟩ := doors_at (k := 0) hk
  rw [Nat.zero_add] at a b
  unfold lo at a
  unfold hi at b
  by_cases c : r.1 ≤ r.2.1
  · rw [if_pos c] at a b
    rcases ho with rfl | rfl
    · exact ⟨_, by rw [if_pos rfl]; exact b⟩
    · exact ⟨_, by rw [if_neg ne.symm]; exact a⟩
  · rw [if_neg c] at a b
    rcases ho with rfl | rfl
    · exact ⟨_, by rw [if_pos rfl]; exact a⟩
    · exact ⟨_, by rw [if_neg ne.symm]; exact b⟩
theorem Duo.few {C S A : Addr} {B M N : Hp} {p n b : Addr} {ds : List Door} {ls : List (List Lt)} {kv : List (Door × List Lt)} (h : Duo C S A B M N p n b ds ls kv) : kv.length ≤ ds.length := by
  have := len_subD h.bk.nd (fun d hd => by
    obtain ⟨e, he, rfl⟩ := List.mem_map.mp hd
    exact h.ag.sub e he) (ys := ds)
  rw [List.length_map] at this
  exact this
def sp_sent (Nc C S A : Addr) : Sp := fun vs H Q _ => ∃ (s c p b L n : Addr) (B M N : Hp) (Rs : List Hp) (ps qs : List Int) (rs : List Row) (ts : List V) (ls : List (List Lt)) (kv : List (Door × List Lt)) (nm : Bool),
  vs = [.ref s, .ref p, .ref b, .ref L, .bl nm] ∧ Wld s c B (M :: N :: Rs) H ∧ NetAt Nc B n ps qs rs ∧ Duo C S A B M N p n b (doorsFrom 0 rs) ls kv ∧ B L = some (.lst ts) ∧ RowsAt B ts rs ∧ 1 ≤ rs.length ∧ rs.length ≤ 12 ∧ (∀ r ∈ rs, r.1 ≠ r.2.1) ∧ total ls ≤ 800 ∧
  ∀ B' M' N' ls' kv' H', Ex B B' → Wld s c B' (M' :: N' :: Rs) H' → Duo C S A B' M' N' p n b (doorsFrom 0 rs) ls' kv' → total ls' ≤ total ls + 1 → Q .non H'
end K19

set_option maxHeartbeats 1000000
/-! dict(xs) of a list of pairs whose keys are tuples -/
namespace L2
open PySem PySem.Spec PyProof.Rows
def mergeT (kvs more : List (List Key × V)) : List (List Key × V) := more.foldl (fun acc kv => putK acc kv.1 kv.2) kvs
theorem length_mergeT : ∀ (more kvs : List (List Key × V)), (mergeT kvs more).length ≤ kvs.length + more.length
  | [], kvs => by show kvs.length ≤ kvs.length + 0; omega
  | p :: r, kvs => by
    have h1 := length_mergeT r (putK kvs p.1 p.2)
    have h2 := length_putK kvs p.1 p.2
    show (mergeT (putK kvs p.1 p.2) r).length ≤ _
    rw [List.length_cons]; omega
theorem KT.merge {H : Hp} : ∀ {more : List (List Key × V)} {rs : List (List Key × Addr × Value)} {kvs : List (List Key × V)} {vs : List (List Key × Addr × Value)}, KT H more rs → KT H kvs vs → KT H (mergeT kvs more) (storedAllH vs rs) := by
  intro more rs kvs vs r
  unfold KT at r
  induction r generalizing kvs vs with
  | nil => intro q; exact q
  | @cons p q ps qs h t ih =>
    intro r0
    obtain ⟨h1, h2, h3⟩ := h
    have e : KT H (putK kvs p.1 p.2) (storedH vs q.1 q.2.1 q.2.2) := by
      have := r0.put p.1 h2 h3
      rwa [h1] at this ⊢
    exact ih e
section
variable {X : Cx}
theorem pairsT_of {pins : List (Addr × Obj)} {σ : St} {H : Hp} {s : Shared} (I : Inv X pins σ H s) : ∀ {ps : List Addr} {kvs : List (List Key × V)}, Paired (fun p kv => ∃ t, SqT X.K H p [.ref t, kv.2] ∧ H t = some (.tup (kv.1.map kV))) ps kvs →
    ∃ prs : List (List Key × Addr × Value), KT H kvs prs ∧ prs.length = ps.length ∧ ∀ (j : Nat) (q : List Key × Addr × Value), prs[j]? = some q → ∃ b : Addr, ps[j]? = some b ∧ IsTup s.heap b #[.ref q.2.1, q.2.2]
  | _, _, .nil => ⟨[], .nil, rfl, fun j q e => by simp at e⟩
  | _, _, .cons (a := p) (b := kv) h t => by
    obtain ⟨prs, r, hl, hp⟩ := pairsT_of I t
    obtain ⟨t0, h, ht0⟩ := h
    obtain ⟨its, rv, ht, _⟩ := I.tuple h
    obtain ⟨u, y, ei, ru, ry⟩ := vals2 rv
    subst ei
    cases ru
    refine ⟨(kv.1, t0, y) :: prs, .cons ⟨rfl, ht0, ry⟩ r, by rw [List.length_cons, List.length_cons, hl], fun j q e => ?_⟩
    cases j with
    | zero =>
      have e' : (kv.1, t0, y) = q := Option.some.inj e
      subst e'
      exact ⟨p, rfl, ht⟩
    | succ j =>
      obtain ⟨b, e1, e2⟩ := hp j q (by simpa using e)
      exact ⟨b, by simpa using e1, e2⟩
/-- dict(xs) of a list of pairs (key tuple, value): later pairs win, the place is the first one's -/
theorem call_dictT (hcalm : X.calm = true) (hu : X.A.units + 2 < cLine) : CallR X (.type "dict") (fun xs H Q => ∃ (a : Addr) (ps : List Addr) (kvs : List (List Key × V)), xs = [.ref a] ∧ SqL X.K H a (ps.map V.ref) ∧ Paired (fun p kv => ∃ t, SqT X.K H p [.ref t, kv.2] ∧ H t = some (.tup (kv.1.map kV))) ps kvs ∧
    ∀ p, H p = none → Q (.ref p) (upd H p (.dT (mergeT [] kvs)))) := by
  intro pins s σ H xs us Q I r q
  obtain ⟨a, ps, kvs, ex, hq, hp, q⟩ := q
  subst ex
  obtain ⟨u, eu, rx⟩ := vals1 r
  subst eu
  cases rx
  obtain ⟨its, rv, pl, hz⟩ := I.list hq
  have ei := refs_at rv
  subst ei
  rw [List.length_map] at hz
  obtain ⟨prs, rel, hl, hpr⟩ := pairsT_of I hp
  obtain ⟨o, n, ho, hc, hd, hdat⟩ := pl
  have keyed : ∀ {l : List (List Key × V)} {m : List (List Key × Addr × Value)}, KT H l m → ∀ x ∈ m, H x.2.1 = some (.tup (x.1.map kV)) := by
    intro l m k
    induction k with
    | nil => intro x hx; exact nomatch hx
    | @cons p q ps qs hq t ih =>
      intro x hx
      rcases List.mem_cons.mp hx with e | hx
      · subst e
        rw [← hq.1]
        exact hq.2.1
      · exact ih x hx
  have K1 := keyed rel
  have P := PairArg.list (prog := X.prog) (w := X.w) a (ps.map Value.ref).toArray (fun j => ps.getD j 0) (prs.map fun q => (Value.ref q.2.1, q.2.2))
  have lk : (prs.map fun q => (Value.ref q.2.1, q.2.2)).length = ps.length := by rw [List.length_map, hl]
  have items : PairItems s.heap (ps.map Value.ref).toArray (fun j => ps.getD j 0) (prs.map fun q => (Value.ref q.2.1, q.2.2)) := by
    refine ⟨by simp [hl], fun j k v hj => ?_⟩
    rw [List.getElem?_map] at hj
    cases hq' : prs[j]? with
    | none => rw [hq'] at hj; cases hj
    | some z =>
      rw [hq'] at hj
      obtain ⟨rfl, rfl⟩ := Prod.mk.inj (Option.some.inj hj)
      obtain ⟨b, e1, e2⟩ := hpr j z hq'
      have eb : ps.getD j 0 = b := by rw [List.getD_eq_getElem?_getD, e1]; rfl
      dsimp only
      rw [eb]
      exact ⟨by simp [e1], .inl e2⟩
  refine call_dict_pairsH (knd := tupleKind (mixKind X.prog X.w)) (ps := prs) P (I.ok.hd hcalm) (show X.A.in1.in1.units < cLine from hu) ⟨⟨o, n, ho, hc, hd, hdat⟩, items⟩ ⟨by rw [List.length_map], fun i key v hr => ?_⟩ (fun h' hk x hx => ?_) (by rw [lk]; exact hz) fun h' tk hd' k => ?_
  · have hr : (prs.map fun q => (Value.ref q.2.1, q.2.2))[i]? = some (key, v) := hr
    rw [List.getElem?_map] at hr
    cases hq' : prs[i]? with
    | none => rw [hq'] at hr; cases hr
    | some z =>
      rw [hq'] at hr
      obtain ⟨rfl, rfl⟩ := Prod.mk.inj (Option.some.inj hr)
      exact ⟨z.1, z.2.1, rfl, rfl⟩
  · obtain ⟨o1, its1, n1, g1, g2⟩ := key_of I.hok (K1 x hx)
    exact ⟨o1, its1, n1, hk _ _ (Nat.ne_of_lt (Heap.lt_size g1)) (by simp) g1, g2⟩
  · have hm : (s.heap.objs.size == sysModules) = false := beq_eq_false_iff_ne.mpr (Nat.ne_of_gt I.big)
    have hlen : (mergeT [] kvs).length ≤ sizeLine := by
      refine Nat.le_trans (length_mergeT kvs []) ?_
      rw [List.length_nil, Nat.zero_add, rel.length, hl]
      exact hz
    have fr : H s.heap.objs.size = none := I.hok.fresh (Nat.le_refl _)
    obtain ⟨o1, es, ep, c1, c2, c3, c4, _, c5⟩ := hd'
    refine ⟨.ref s.heap.objs.size, upd H s.heap.objs.size (.dT (mergeT [] kvs)), I.laid (t' := tk) (fun b o e => k b o (by simp) e) (Nat.le_refl _) ?_, rfl, q _ fr⟩
    exact ⟨hlen, hm, _, (KT.merge rel .nil).keeps fun b ys e => by rw [upd_ne (fun z => by rw [z, fr] at e; cases e)]; exact e, o1, es, ep, c1, c2, c3, c4, c5⟩
end
end L2

set_option maxHeartbeats 1000000
namespace K19
open PySem PySem.Spec PyProof.Rows L2 Evl MyG
theorem door_of : ∀ {rs : List Row} {k i : Nat} {d : Door}, (doorsFrom k rs)[i]? = some d → ∃ (j : Nat) (r : Row), rs[j]? = some r ∧ d.1 = ((k + j : Nat) : Int) ∧ (d.2 = r.1 ∨ d.2 = r.2.1)
  | [], _, _, _, h => by simp [doorsFrom] at h
  | r0 :: rs, k, 0, d, h => by
    obtain rfl : ((k : Int), lo r0) = d := by simpa [doorsFrom] using h
    refine ⟨0, r0, rfl, rfl, ?_⟩
    show lo r0 = _ ∨ lo r0 = _
    unfold lo
    split
    · exact .inl rfl
    · exact .inr rfl
  | r0 :: rs, k, 1, d, h => by
    obtain rfl : ((k : Int), hi r0) = d := by simpa [doorsFrom] using h
    refine ⟨0, r0, rfl, rfl, ?_⟩
    show hi r0 = _ ∨ hi r0 = _
    unfold hi
    split
    · exact .inr rfl
    · exact .inl rfl
  | r0 :: rs, k, i + 2, d, h => by
    obtain ⟨j, r, h1, h2, h3⟩ := door_of (k := k + 1) (show (doorsFrom (k + 1) rs)[i]? = some d by simpa [doorsFrom] using h)
    exact ⟨j + 1, r, by simpa using h1, by rw [h2]; congr 1; omega, h3⟩
theorem ei_told {S A : Addr} {te : TE} {σ : L2.St} {H : Hp} {Q : VK} {l : Lt} (h : ∀ Q' : VK, (∀ p H1, Ex H H1 → LtAt S A H1 p l → Q' (.ref p) H1) → te σ H Q') (q : ∀ t H1, Ex H H1 → H1 t = some (.tup l.vs) → Q (.ref t) H1) :
    tEi (tMeth S "told" (sp_toldS S) [] E0 te tNil) (tMeth A "told" (sp_toldA A) [] E0 te tNil) σ H Q := by
  cases l with
  | say n r f => exact .inl (h _ fun p H1 e ⟨dx, hp⟩ => ⟨p, dx, _, rfl, hp, fS_t _ _ _, dx, p, n, r, f, rfl, hp, fun t H2 ht e2 h2 => q _ H2 (e.trans e2) h2⟩)
  | agree n => exact .inr (h _ fun p H1 e ⟨dx, hp⟩ => ⟨p, dx, _, rfl, hp, fA_t _, dx, p, n, rfl, hp, fun t H2 ht e2 h2 => q _ H2 (e.trans e2) h2⟩)
theorem ei_eqL {K : PySem.W.Frag} {σ : L2.St} {H : Hp} {S A p : Addr} {l : Lt} {te : TE} {i : Nat} {Q : VK} (s1 : PySem.W.subIn K (.ref A) (.ref S) = some false) (s2 : PySem.W.subIn K (.ref S) (.ref A) = some false) (hl : ∀ H1, Ex H H1 → LtAt S A H1 p l) (hi : σ[i]? = some (some (.ref p)))
    (hy : ∀ Q' : VK, (∀ r H1, Ex H H1 → LtAt S A H1 r l → Q' (.ref r) H1) → te σ H Q') (q : ∀ H1, Ex H H1 → Q (.bl true) H1) :
    tEi (tOp (rEqJ K S (sp_eqS S A) E0) (tVar i) te) (tOp (rEqJ K A (sp_eqA S A) E0) (tVar i) te) σ H Q := by
  cases l with
  | say n r f =>
    refine .inl ⟨_, hi, hy _ fun v H2 e2 h => ?_⟩
    obtain ⟨dx, hp⟩ := hl H2 e2
    obtain ⟨dy, hv⟩ := id h
    exact ⟨p, dx, _, rfl, hp, .inr ⟨v, S, dy, _, rfl, hv, notFirst_self⟩, dx, p, n, r, f, _, rfl, hp, .inr ⟨v, _, rfl, h, fun H3 e3 => ⟨_, rfl, by rw [decide_eq_true rfl]; exact q H3 (e2.trans e3)⟩⟩⟩
  | agree n =>
    refine .inr ⟨_, hi, hy _ fun v H2 e2 h => ?_⟩
    obtain ⟨dx, hp⟩ := hl H2 e2
    obtain ⟨dy, hv⟩ := id h
    exact ⟨p, dx, _, rfl, hp, .inr ⟨v, A, dy, _, rfl, hv, notFirst_self⟩, dx, p, n, _, rfl, hp, .inr ⟨v, _, rfl, h, fun H3 e3 => ⟨_, rfl, by rw [decide_eq_true rfl]; exact q H3 (e2.trans e3)⟩⟩⟩
/-- what is told is new -/
theorem ei_toldN {S A : Addr} {te : TE} {σ : L2.St} {H : Hp} {Q : VK} {l : Lt} (h : ∀ Q' : VK, (∀ p H1, Ex H H1 → LtAt S A H1 p l → Q' (.ref p) H1) → te σ H Q') (q : ∀ t H1, H t = none → Ex H H1 → H1 t = some (.tup l.vs) → Q (.ref t) H1) :
    tEi (tMeth S "told" (sp_toldS S) [] E0 te tNil) (tMeth A "told" (sp_toldA A) [] E0 te tNil) σ H Q := by
  cases l with
  | say n r f => exact .inl (h _ fun p H1 e ⟨dx, hp⟩ => ⟨p, dx, _, rfl, hp, fS_t _ _ _, dx, p, n, r, f, rfl, hp, fun t H2 ht e2 h2 => q _ H2 (fresh_back e ht) (e.trans e2) h2⟩)
  | agree n => exact .inr (h _ fun p H1 e ⟨dx, hp⟩ => ⟨p, dx, _, rfl, hp, fA_t _, dx, p, n, rfl, hp, fun t H2 ht e2 h2 => q _ H2 (fresh_back e ht) (e.trans e2) h2⟩)
/-- the same behind what changes the heap -/
theorem ei_toldR {S A : Addr} {te : TE} {σ : L2.St} {H : Hp} {Q : VK} {l : Lt} (R : Hp → Prop) (h : ∀ Q' : VK, (∀ p H1, R H1 → LtAt S A H1 p l → Q' (.ref p) H1) → te σ H Q') (q : ∀ t H1 H2, R H1 → H1 t = none → Ex H1 H2 → H2 t = some (.tup l.vs) → Q (.ref t) H2) :
    tEi (tMeth S "told" (sp_toldS S) [] E0 te tNil) (tMeth A "told" (sp_toldA A) [] E0 te tNil) σ H Q := by
  cases l with
  | say n r f => exact .inl (h _ fun p H1 e ⟨dx, hp⟩ => ⟨p, dx, _, rfl, hp, fS_t _ _ _, dx, p, n, r, f, rfl, hp, fun t H2 ht e2 h2 => q _ H1 H2 e ht e2 h2⟩)
  | agree n => exact .inr (h _ fun p H1 e ⟨dx, hp⟩ => ⟨p, dx, _, rfl, hp, fA_t _, dx, p, n, rfl, hp, fun t H2 ht e2 h2 => q _ H1 H2 e ht e2 h2⟩)
theorem total_lose {ls : List (List Lt)} {i : Nat} : total (ls.set i []) ≤ total ls := by
  cases h : ls[i]? with
  | none => rw [List.set_eq_of_length_le (List.getElem?_eq_none_iff.mp h)]; exact Nat.le_refl _
  | some l =>
    have := total_set [] h
    have : ([] : List Lt).length = 0 := rfl
    omega
theorem one_at {p : Addr} {o : HO} : one p o p = some o := upd_same
theorem one_upd {p : Addr} {o o' : HO} : upd (one p o) p o' = one p o' := by
  funext a
  unfold one
  by_cases z : a = p
  · rw [z, upd_same, upd_same]
  · rw [upd_ne z, upd_ne z, upd_ne z]
theorem total_new (ds : List Door) : total (ds.map fun _ => []) = 0 := by
  unfold total
  rw [List.map_map]
  induction ds with
  | nil => rfl
  | cons d ds ih =>
    rw [List.map_cons, List.sum_cons, ih]
    rfl
theorem post_new {s c x dx C : Addr} {B H : Hp} {Rs : List Hp} (W : Wld s c B Rs H) (hx : H x = none) (hdx : H dx = none) (ne : dx ≠ x) : Wld s c B (one x (.ins C dx []) :: Rs) (upd (upd H dx (.own x)) x (.ins C dx [])) := by
  have hx2 : (upd H dx (.own x)) x = none := by rw [upd_ne (Ne.symm ne)]; exact hx
  exact (W.ext (Ex.new (o := .own x) hdx)).one hx2
theorem ex_make {x dx C : Addr} {H : Hp} (hx : H x = none) (hdx : H dx = none) (ne : dx ≠ x) : Ex H (upd (upd H dx (.own x)) x (.ins C dx [])) :=
  (Ex.new (o := .own x) hdx).trans (Ex.new (by rw [upd_ne (Ne.symm ne)]; exact hx))
theorem duo_new {C S A : Addr} {B M : Hp} {p n b : Addr} {rs : List Row} {N : Hp} (po : PostAt C S A B M p n (doorsFrom 0 rs) ((doorsFrom 0 rs).map fun _ => [])) (hb : N b = some (.dT [])) : Duo C S A B M N p n b (doorsFrom 0 rs) ((doorsFrom 0 rs).map fun _ => []) [] := by
  refine ⟨po, ⟨⟨[], hb, List.nodup_nil, rfl, .nil⟩, List.nodup_nil⟩, ⟨fun e he => absurd he (by simp), fun i d l hd hl => ?_, by rw [List.length_map]⟩⟩
  rw [List.getElem?_map, hd] at hl
  exact Option.some.inj hl
/-- the places of a link's two doors -/
theorem two_doors {rs : List Row} {k : Nat} {r : Row} (hk : rs[k]? = some r) (ne : r.1 ≠ r.2.1) : ∃ i j : Nat, (doorsFrom 0 rs)[i]? = some ((k : Int), r.1) ∧ (doorsFrom 0 rs)[j]? = some ((k : Int), r.2.1) ∧ i ≠ j ∧ ∀ ls : List (List Lt), (ls.set (2 * k) []).set (2 * k + 1) [] = (ls.set i []).set j [] := by
  obtain ⟨a, b⟩ := doors_at (k := 0) hk
  rw [Nat.zero_add] at a b
  unfold lo at a
  unfold hi at b
  by_cases c : r.1 ≤ r.2.1
  · rw [if_pos c] at a b
    exact ⟨2 * k, 2 * k + 1, a, b, by omega, fun _ => rfl⟩
  · rw [if_neg c] at a b
    exact ⟨2 * k + 1, 2 * k, b, a, by omega, fun ls => List.set_comm _ _ (by omega)⟩
theorem doors_erase {H : Hp} : ∀ {xs : List V} {dd : List Door} {m : Nat}, DoorsAt H xs dd → DoorsAt H (xs.eraseIdx m) (dd.eraseIdx m)
  | _, _, _, .nil => .nil
  | _, _, 0, .cons _ t => t
  | _, _, m + 1, .cons a t => .cons a (doors_erase t)
theorem shaped_doors (dd : List Door) : SeqAt.shaped (.list (dd.map doorD)) = true := by
  have c : PyData.canLayAll0 (dd.map doorD) = true ∧ PyData.depthAll (dd.map doorD) ≤ 1 := by
    induction dd with
    | nil => exact ⟨rfl, Nat.zero_le _⟩
    | cons t l ih =>
      rw [List.map_cons]
      refine ⟨?_, ?_⟩
      · unfold PyData.canLayAll0
        rw [show PyData.canLay0 (doorD t) = true by simp [doorD, PyData.canLay0, PyData.canLayAll0], ih.1]
        rfl
      · unfold PyData.depthAll
        have : PyData.depth (doorD t) ≤ 1 := by simp [doorD, PyData.depth, PyData.depthAll]
        have := ih.2
        omega
  unfold SeqAt.shaped
  simp only [PyData.canLay0, c.1, PyData.depth]
  have : PyData.depthAll (dd.map doorD) + 1 ≤ 64 := by omega
  simp [this]
theorem eqv_doors (dd : List Door) : PyData.eqv (.list (dd.map doorD)) (.list []) = dd.isEmpty := by
  cases dd <;> simp [PyData.eqv, PyData.eqvAll]
theorem mergeT_kvs : ∀ {dd ad : List Door} {rr ar : List Addr}, rr.length = dd.length → ar.length = ad.length → (ad ++ dd).Nodup → mergeT (kvsOf ad ar) (kvsOf dd rr) = kvsOf (ad ++ dd) (ar ++ rr)
  | [], ad, [], ar, _, _, _ => by rw [List.append_nil, List.append_nil]; rfl
  | [], _, _ :: _, _, h, _, _ => by simp at h
  | _ :: _, _, [], _, h, _, _ => by simp at h
  | d :: dd, ad, r :: rr, ar, h1, h2, nd => by
    have nm : ¬ d ∈ ad := fun m => by
      rw [List.nodup_append] at nd
      exact nd.2.2 d m d (List.mem_cons_self ..) rfl
    show mergeT (putK (kvsOf ad ar) (keyD d) (.ref r)) (kvsOf dd rr) = _
    rw [kvs_snoc h2 nm, mergeT_kvs (by simpa using h1) (by rw [List.length_append, List.length_append, h2]; rfl) (by rw [List.append_assoc]; exact nd), List.append_assoc, List.append_assoc]
    rfl
/-- a book's copy under way: the pairs, the rows -/
structure Copy (B N H : Hp) (D : Addr) (kv : List (Door × List Lt)) (i : Nat) (ps rr : List Addr) : Prop where
  list : N D = some (.lst (ps.map V.ref))
  pairs : Paired (fun p (kv : List Key × V) => ∃ t, H p = some (.tup [.ref t, kv.2]) ∧ H t = some (.tup (kv.1.map kV))) ps (kvsOf ((kv.map (·.1)).take i) rr)
  rows : Paired (fun (r : Addr) (e : Door × List Lt) => ∃ xs, N r = some (.lst xs) ∧ TupsAt B xs e.2) rr (kv.take i)
  nd : rr.Nodup
  nD : ¬ D ∈ rr
theorem kvs_snoc2 : ∀ {dd : List Door} {rr : List Addr} {d : Door} {r : Addr}, rr.length = dd.length → kvsOf (dd ++ [d]) (rr ++ [r]) = kvsOf dd rr ++ [(keyD d, .ref r)]
  | [], [], _, _, _ => rfl
  | [], _ :: _, _, _, h => by simp at h
  | _ :: _, [], _, _, h => by simp at h
  | d0 :: dd, r0 :: rr, d, r, h => by
    show (keyD d0, V.ref r0) :: kvsOf (dd ++ [d]) (rr ++ [r]) = (keyD d0, V.ref r0) :: (kvsOf dd rr ++ [(keyD d, V.ref r)])
    rw [kvs_snoc2 (by simpa using h)]
theorem paired_mem {α β : Type} {R S : α → β → Prop} : ∀ {xs : List α} {ys : List β}, Paired R xs ys → (∀ x y, x ∈ xs → R x y → S x y) → Paired S xs ys
  | _, _, .nil, _ => .nil
  | _, _, .cons h t, f => .cons (f _ _ (List.mem_cons_self ..) h) (paired_mem t fun x y hx => f x y (List.mem_cons_of_mem _ hx))
end K19

set_option maxHeartbeats 1000000
namespace K19
open PySem PySem.Spec PyProof.Rows L2 Evl MyG
variable {α : Type}
/-! ### books of anything -/
structure BkG {α : Type} (E : V → α → Prop) (N : Hp) (b : Addr) (kv : List (Door × List α)) : Prop where
  ex : ∃ rs, N b = some (.dT (kvsOf (kv.map (·.1)) rs)) ∧ rs.Nodup ∧ rs.length = kv.length ∧ Paired (fun (r : Addr) (e : Door × List α) => ∃ xs, N r = some (.lst xs) ∧ Paired E xs e.2) rs kv
  nd : (kv.map (·.1)).Nodup
def gotG (kv : List (Door × List α)) (d : Door) : List α := ((kv.find? fun e => decide (e.1 = d)).map (·.2)).getD []
theorem gotG_at : ∀ {kv : List (Door × List α)} {i : Nat} {d : Door} {l : List α}, (kv.map (·.1)).Nodup → kv[i]? = some (d, l) → gotG kv d = l
  | [], _, _, _, _, h => by simp at h
  | (d0, l0) :: kv, 0, d, l, nd, h => by
    simp only [List.getElem?_cons_zero, Option.some.injEq, Prod.mk.injEq] at h
    obtain ⟨rfl, rfl⟩ := h
    simp [gotG]
  | (d0, l0) :: kv, i + 1, d, l, nd, h => by
    simp only [List.getElem?_cons_succ] at h
    rw [List.map_cons, List.nodup_cons] at nd
    have ne : ¬ d0 = d := fun e => nd.1 (by rw [e]; exact List.mem_map.mpr ⟨(d, l), List.mem_of_getElem? h, rfl⟩)
    have ih := gotG_at nd.2 h
    unfold gotG at ih ⊢
    rw [List.find?_cons_of_neg (by simpa using ne)]
    exact ih
theorem BkG.row {E : V → α → Prop} {N : Hp} {b : Addr} {kv : List (Door × List α)} {i : Nat} {d : Door} {l : List α} (h : BkG E N b kv) (hd : kv[i]? = some (d, l)) :
    ∃ kvs r xs, N b = some (.dT kvs) ∧ valV kvs (keyD d) = some (.ref r) ∧ N r = some (.lst xs) ∧ Paired E xs l := by
  obtain ⟨rs, h1, h2, h3, h4⟩ := h.ex
  have hi : i < rs.length := by
    have := (List.getElem?_eq_some_iff.mp hd).1
    omega
  obtain ⟨e, he, xs, hx, hxs⟩ := paired_at h4 (List.getElem?_eq_getElem hi)
  rw [hd] at he
  obtain rfl := Option.some.inj he
  exact ⟨_, rs[i], xs, h1, valV_kvs h.nd (by rw [List.getElem?_map, hd]; rfl) (List.getElem?_eq_getElem hi), hx, hxs⟩
def putG : List (Door × List α) → Door → List α → List (Door × List α)
  | [], d, l => [(d, l)]
  | e :: kv, d, l => if e.1 = d then (d, l) :: kv else e :: putG kv d l
def putS (f : Addr) : List (Door × List α) → List Addr → Door → List Addr
  | [], _, _ => [f]
  | _ :: _, [], _ => [f]
  | e :: kv, r :: rs, d => if e.1 = d then f :: rs else r :: putS f kv rs d
theorem putG_in {d : Door} {l : List α} : ∀ {kv : List (Door × List α)}, d ∈ kv.map (·.1) → (putG kv d l).map (·.1) = kv.map (·.1)
  | [], h => by simp at h
  | e :: kv, h => by
    unfold putG
    by_cases z : e.1 = d
    · rw [if_pos z, List.map_cons, List.map_cons, z]
    · rw [if_neg z, List.map_cons, List.map_cons, putG_in (by
        rcases List.mem_cons.mp h with q | q
        · exact absurd q.symm z
        · exact q)]
theorem putG_out {d : Door} {l : List α} : ∀ {kv : List (Door × List α)}, ¬ d ∈ kv.map (·.1) → (putG kv d l).map (·.1) = kv.map (·.1) ++ [d]
  | [], _ => rfl
  | e :: kv, h => by
    unfold putG
    have z : ¬ e.1 = d := fun q => h (by rw [← q]; exact List.mem_cons_self ..)
    rw [if_neg z, List.map_cons, List.map_cons, putG_out fun q => h (List.mem_cons_of_mem _ q)]
    rfl
theorem putS_in {f : Addr} {d : Door} : ∀ {kv : List (Door × List α)} {rs : List Addr} {i : Nat}, (kv.map (·.1)).Nodup → rs.length = kv.length → (kv.map (·.1))[i]? = some d → putS f kv rs d = rs.set i f
  | [], _, _, _, _, h => by simp at h
  | _ :: _, [], _, _, h, _ => by simp at h
  | e :: kv, r :: rs, 0, nd, hl, h => by
    have z : e.1 = d := by simpa using h
    unfold putS
    rw [if_pos z]
    rfl
  | e :: kv, r :: rs, i + 1, nd, hl, h => by
    rw [List.map_cons, List.nodup_cons] at nd
    have h : (kv.map (·.1))[i]? = some d := by simpa using h
    have z : ¬ e.1 = d := fun q => nd.1 (by rw [q]; exact List.mem_of_getElem? h)
    unfold putS
    rw [if_neg z, putS_in nd.2 (by simpa using hl) h]
    rfl
theorem putS_out {f : Addr} {d : Door} : ∀ {kv : List (Door × List α)} {rs : List Addr}, rs.length = kv.length → ¬ d ∈ kv.map (·.1) → putS f kv rs d = rs ++ [f]
  | [], [], _, _ => rfl
  | [], _ :: _, h, _ => by simp at h
  | _ :: _, [], h, _ => by simp at h
  | e :: kv, r :: rs, hl, h => by
    unfold putS
    have z : ¬ e.1 = d := fun q => h (by rw [← q]; exact List.mem_cons_self ..)
    rw [if_neg z, putS_out (by simpa using hl) fun q => h (List.mem_cons_of_mem _ q)]
    rfl
theorem putS_mem {f x : Addr} {d : Door} : ∀ {kv : List (Door × List α)} {rs : List Addr}, x ∈ putS f kv rs d → x = f ∨ x ∈ rs
  | [], _, h => .inl (by simpa [putS] using h)
  | _ :: _, [], h => .inl (by simpa [putS] using h)
  | e :: kv, r :: rs, h => by
    unfold putS at h
    split at h
    · rcases List.mem_cons.mp h with q | q
      · exact .inl q
      · exact .inr (List.mem_cons_of_mem _ q)
    · rcases List.mem_cons.mp h with q | q
      · exact .inr (by rw [q]; exact List.mem_cons_self ..)
      · rcases putS_mem q with q | q
        · exact .inl q
        · exact .inr (List.mem_cons_of_mem _ q)
theorem putS_nd {f : Addr} {d : Door} : ∀ {kv : List (Door × List α)} {rs : List Addr}, rs.Nodup → ¬ f ∈ rs → (putS f kv rs d).Nodup
  | [], _, _, _ => by simp [putS]
  | _ :: _, [], _, _ => by simp [putS]
  | e :: kv, r :: rs, h, hf => by
    rw [List.nodup_cons] at h
    unfold putS
    split
    · exact List.nodup_cons.mpr ⟨fun z => hf (List.mem_cons_of_mem _ z), h.2⟩
    · refine List.nodup_cons.mpr ⟨fun z => ?_, putS_nd h.2 fun z => hf (List.mem_cons_of_mem _ z)⟩
      rcases putS_mem z with z | z
      · exact hf (by rw [← z]; exact List.mem_cons_self ..)
      · exact h.1 z
theorem putG_paired {Pd : Addr → (Door × List α) → Prop} {f : Addr} {d : Door} {l : List α} (hf : Pd f (d, l)) : ∀ {rs : List Addr} {kv : List (Door × List α)}, Paired Pd rs kv → Paired Pd (putS f kv rs d) (putG kv d l)
  | _, _, .nil => .cons hf .nil
  | _, _, @Paired.cons _ _ _ r e rs kv h t => by
    unfold putS putG
    split
    · exact .cons hf t
    · exact .cons h (putG_paired hf t)
theorem putG_book {f : Addr} {d : Door} {l : List α} {kv : List (Door × List α)} {rs : List Addr} (hl : rs.length = kv.length) (nd : (kv.map (·.1)).Nodup) :
    putK (kvsOf (kv.map (·.1)) rs) (keyD d) (.ref f) = kvsOf ((putG kv d l).map (·.1)) (putS f kv rs d) := by
  by_cases h : d ∈ kv.map (·.1)
  · obtain ⟨i, hi⟩ := List.mem_iff_getElem?.mp h
    rw [put_kvs nd hi (by rw [List.length_map]; exact hl), putG_in h, putS_in nd hl hi]
  · rw [kvs_snoc (by rw [List.length_map]; exact hl) h, putG_out h, putS_out hl h]
theorem putG_nd {kv : List (Door × List α)} {d : Door} {l : List α} (nd : (kv.map (·.1)).Nodup) : ((putG kv d l).map (·.1)).Nodup := by
  by_cases h : d ∈ kv.map (·.1)
  · rw [putG_in h]; exact nd
  · rw [putG_out h]
    exact List.nodup_append.mpr ⟨nd, by simp, fun a ha b hb => by
      rw [List.mem_singleton] at hb
      rintro rfl
      exact h (by rw [← hb]; exact ha)⟩
theorem BkG.put {E : V → α → Prop} {N H : Hp} {b f : Addr} {kv : List (Door × List α)} {d : Door} {xs : List V} {l : List α} (h : BkG E N b kv) (eN : Ex N H) (hf : H f = none) (hx : Paired E xs l) :
    ∃ kvs, N b = some (.dT kvs) ∧ kvs.length = kv.length ∧ BkG E (upd (upd N f (.lst xs)) b (.dT (putK kvs (keyD d) (.ref f)))) b (putG kv d l) := by
  obtain ⟨rs, h1, h2, h3, h4⟩ := h.ex
  have nf : ∀ {a : Addr} {o : HO}, N a = some o → a ≠ f := fun ha z => by
    have := eN _ _ ha
    rw [z, hf] at this
    cases this
  refine ⟨_, h1, by rw [kvs_len _ _ (by rw [List.length_map]; exact h3), List.length_map], ⟨putS f kv rs d, by rw [upd_same, putG_book h3 h.nd], putS_nd h2 fun hm => ?_, ?_, ?_⟩, putG_nd h.nd⟩
  · obtain ⟨i, hi⟩ := List.mem_iff_getElem?.mp hm
    obtain ⟨e, he, ys, hy, _⟩ := paired_at h4 hi
    exact nf hy rfl
  · by_cases m : d ∈ kv.map (·.1)
    · obtain ⟨i, hi⟩ := List.mem_iff_getElem?.mp m
      have := congrArg List.length (putG_in (l := l) m)
      rw [List.length_map, List.length_map] at this
      rw [putS_in h.nd h3 hi, List.length_set, this, h3]
    · have := congrArg List.length (putG_out (l := l) m)
      rw [List.length_map, List.length_append, List.length_map] at this
      rw [putS_out h3 m, List.length_append, this, h3]
      rfl
  · have fb : f ≠ b := (nf h1).symm
    refine putG_paired ⟨xs, by rw [upd_ne fb, upd_same], hx⟩ (Paired.mapP h4 fun r e ⟨ys, a1, a2⟩ => ⟨ys, ?_, a2⟩)
    rw [upd_ne (ne_of a1 h1 (by intro z; cases z)), upd_ne (nf a1)]
    exact a1
theorem gotG_nil (d : Door) : gotG ([] : List (Door × List α)) d = [] := rfl
theorem gotG_cons (e : Door × List α) (kv : List (Door × List α)) (d : Door) : gotG (e :: kv) d = if e.1 = d then e.2 else gotG kv d := by
  unfold gotG
  by_cases z : e.1 = d
  · rw [List.find?_cons_of_pos (by simpa using z), if_pos z]; rfl
  · rw [List.find?_cons_of_neg (by simpa using z), if_neg z]
theorem gotG_put {d d' : Door} {l : List α} : ∀ {kv : List (Door × List α)}, gotG (putG kv d l) d' = if d = d' then l else gotG kv d'
  | [] => by unfold putG; rw [gotG_cons]
  | e :: kv => by
    unfold putG
    by_cases z : e.1 = d
    · rw [if_pos z, gotG_cons, gotG_cons]
      by_cases y : d = d'
      · rw [if_pos y, if_pos y]
      · rw [if_neg y, if_neg y, if_neg (by rw [z]; exact y)]
    · rw [if_neg z, gotG_cons, gotG_cons, gotG_put]
      by_cases x : e.1 = d'
      · rw [if_pos x, if_pos x, if_neg fun q => z (x.trans q.symm)]
      · rw [if_neg x, if_neg x]
theorem putG_mem {d : Door} {l : List α} {kv : List (Door × List α)} {x : Door} (h : x ∈ (putG kv d l).map (·.1)) : x = d ∨ x ∈ kv.map (·.1) := by
  by_cases m : d ∈ kv.map (·.1)
  · rw [putG_in m] at h
    exact .inr h
  · rw [putG_out m, List.mem_append, List.mem_singleton] at h
    exact h.symm
end K19

set_option maxHeartbeats 1000000
namespace K19
open PySem PySem.Spec PyProof.Rows L2 Evl MyG
/-! ### a world of which all is known but the state and the regions -/
def noTup (M : Hp) : Hp := fun a => match M a with
  | some (.tup _) => none
  | o => o
theorem noTup_some {M : Hp} {a : Addr} {o : HO} (h : M a = some o) (n : ∀ ys, o ≠ .tup ys) : noTup M a = some o := by
  unfold noTup
  rw [h]
  cases o with
  | tup ys => exact absurd rfl (n ys)
  | _ => rfl
theorem noTup_ex {M : Hp} : Ex (noTup M) M := fun a o h => by
  unfold noTup at h
  cases hm : M a with
  | none => rw [hm] at h; cases h
  | some u =>
    rw [hm] at h
    cases u with
    | tup ys => cases h
    | _ => exact h
theorem noTup_no {M : Hp} {a : Addr} {ys : List V} : noTup M a ≠ some (.tup ys) := by
  unfold noTup
  cases hm : M a with
  | none => intro h; cases h
  | some u => cases u <;> (intro h; cases h)
theorem noTup_none {M : Hp} {a : Addr} (h : M a = none) : noTup M a = none := by
  unfold noTup
  rw [h]
theorem PostAt.noTup {C S A : Addr} {B M : Hp} {p n : Addr} {ds : List Door} {ls : List (List Lt)} (h : PostAt C S A B M p n ds ls) : PostAt C S A B (noTup M) p n ds ls := by
  obtain ⟨dx, z, rs, h1, h2, h3, h4, h5⟩ := h.ex
  exact ⟨⟨dx, z, rs, noTup_some h1 (fun ys e => by cases e), noTup_some h2 (fun ys e => by cases e), h3, h4, Paired.mapP h5 fun r l ⟨xs, a1, a2⟩ => ⟨xs, noTup_some a1 (fun ys e => by cases e), a2⟩⟩, h.nd⟩
theorem BookAt.noTup {B N : Hp} {b : Addr} {kv : List (Door × List Lt)} (h : BookAt B N b kv) : BookAt B (noTup N) b kv := by
  obtain ⟨rs, h1, h2, h3, h4⟩ := h.ex
  exact ⟨⟨rs, noTup_some h1 (fun ys e => by cases e), h2, h3, Paired.mapP h4 fun r e ⟨xs, a1, a2⟩ => ⟨xs, noTup_some a1 (fun ys e => by cases e), a2⟩⟩, h.nd⟩
theorem Wld.noTup {s c : Addr} {B H : Hp} {Rs : List Hp} (W : Wld s c B Rs H) : Wld s c B (Rs.map K19.noTup) H := by
  refine ⟨W.w, fun R h => ?_, fun R h => ?_, fun R h => ?_, ?_⟩
  · obtain ⟨R0, h0, rfl⟩ := List.mem_map.mp h
    exact noTup_ex.trans (W.ex R0 h0)
  · obtain ⟨R0, h0, rfl⟩ := List.mem_map.mp h
    exact ⟨noTup_none (W.off R0 h0).1, noTup_none (W.off R0 h0).2⟩
  · obtain ⟨R0, h0, rfl⟩ := List.mem_map.mp h
    intro a
    rcases W.dj R0 h0 a with z | z
    · exact .inl z
    · exact .inr (noTup_none z)
  · rw [List.pairwise_map]
    refine W.pw.imp fun h a => ?_
    rcases h a with z | z
    · exact .inl (noTup_none z)
    · exact .inr (noTup_none z)
open Classical in
noncomputable def allBut (s c : Addr) (Rs : List Hp) (H : Hp) : Hp := fun a => if a = s ∨ a = c ∨ ∃ R ∈ Rs, R a ≠ none then none else H a
theorem allBut_at {s c a : Addr} {Rs : List Hp} {H : Hp} {o : HO} (h : H a = some o) (hs : a ≠ s) (hc : a ≠ c) (hR : ∀ R ∈ Rs, R a = none) : allBut s c Rs H a = some o := by
  unfold allBut
  rw [if_neg fun z => ?_, h]
  rcases z with z | z | ⟨R, hm, z⟩
  · exact hs z
  · exact hc z
  · exact z (hR R hm)
theorem allBut_ex {s c : Addr} {Rs : List Hp} {H : Hp} : Ex (allBut s c Rs H) H := fun a o h => by
  unfold allBut at h
  split at h
  · cases h
  · exact h
theorem Wld.knows {s c : Addr} {B H : Hp} {Rs : List Hp} (W : Wld s c B Rs H) : Ex B (allBut s c Rs H) := fun a o h => allBut_at (W.w.ex a o h) (fun z => by rw [z, W.w.ns] at h; cases h) (fun z => by rw [z, W.w.nc] at h; cases h) fun R hR => by
  rcases W.dj R hR a with z | z
  · rw [z] at h; cases h
  · exact z
theorem Wld.all {s c : Addr} {B H : Hp} {Rs : List Hp} (W : Wld s c B Rs H) : Wld s c (allBut s c Rs H) Rs H := by
  refine ⟨⟨allBut_ex, ?_, ?_, W.w.st⟩, W.ex, W.off, fun R hR a => ?_, W.pw⟩
  · unfold allBut
    rw [if_pos (.inl rfl)]
  · unfold allBut
    rw [if_pos (.inr (.inl rfl))]
  · cases q : R a with
    | none => exact .inr rfl
    | some o =>
      left
      unfold allBut
      rw [if_pos (.inr (.inr ⟨R, hR, by rw [q]; exact fun z => by cases z⟩))]
/-- what tuples there are is known -/
theorem Wld.tupAt {s c a : Addr} {B H : Hp} {Rs : List Hp} {ys : List V} (W : Wld s c B Rs H) (h : H a = some (.tup ys)) : allBut s c (Rs.map K19.noTup) H a = some (.tup ys) := by
  obtain ⟨cells, i, j, h1, h2, _⟩ := W.st.ex
  refine allBut_at h (fun z => by rw [z, h1] at h; cases h) (fun z => by rw [z, h2] at h; cases h) fun R hR => ?_
  obtain ⟨R0, h0, rfl⟩ := List.mem_map.mp hR
  cases q : K19.noTup R0 a with
  | none => rfl
  | some o =>
    have := W.ex R0 h0 a o (noTup_ex a o q)
    rw [h] at this
    obtain rfl := Option.some.inj this
    exact absurd q noTup_no
/-- a region becomes known -/
theorem Wld.yield {s c a : Addr} {B M H : Hp} {Rs : List Hp} {o : HO} (W : Wld s c B (M :: Rs) H) (h : M a = some o) : allBut s c Rs H a = some o := by
  obtain ⟨m1, m2⟩ := W.off M (List.mem_cons_self ..)
  refine allBut_at (W.ex M (List.mem_cons_self ..) a o h) (fun z => by rw [z, m1] at h; cases h) (fun z => by rw [z, m2] at h; cases h) fun R hR => ?_
  rcases (List.pairwise_cons.mp W.pw).1 R hR a with z | z
  · rw [z] at h; cases h
  · exact z
end K19

set_option maxHeartbeats 1000000
namespace K19
open PySem PySem.Spec PyProof.Rows L2 Evl MyG
/-! ### a door's deeds in order: letters sent, and takings -/
abbrev OL := Option Lt
def snt (l : List OL) : List Lt := l.filterMap id
def non (l : List OL) : Nat := l.length - (snt l).length
def Good (l : List OL) : Prop := ∀ n, non (l.take n) ≤ (snt (l.take n)).length
def rowL (l : List OL) (n : Nat) : List Lt := (snt (l.take n)).drop (non (l.take n))
def toldL (l : List OL) (n : Nat) : List Lt := (snt (l.take n)).take (non (l.take n))
theorem snt_le (l : List OL) : (snt l).length ≤ l.length := List.length_filterMap_le _ _
theorem snt_snoc (l : List OL) (o : OL) : snt (l ++ [o]) = snt l ++ o.toList := by
  unfold snt
  rw [List.filterMap_append]
  cases o <;> rfl
theorem non_snoc (l : List OL) (o : OL) : non (l ++ [o]) = non l + (if o = none then 1 else 0) := by
  unfold non
  have := snt_le l
  rw [snt_snoc, List.length_append, List.length_append]
  cases o with
  | none => simp; omega
  | some t => simp
theorem Good.sent {l : List OL} {n : Nat} {t : Lt} (g : Good l) (h : l[n]? = some (some t)) : rowL l (n + 1) = rowL l n ++ [t] ∧ toldL l (n + 1) = toldL l n := by
  have gn := g n
  have e := take_snoc h
  unfold rowL toldL
  rw [e, snt_snoc, non_snoc, if_neg (by simp)]
  simp only [Nat.add_zero, Option.toList]
  exact ⟨List.drop_append_of_le_length gn, List.take_append_of_le_length gn⟩
theorem Good.taken {l : List OL} {n : Nat} (g : Good l) (h : l[n]? = some Option.none) : ∃ t row, rowL l n = t :: row ∧ rowL l (n + 1) = row ∧ toldL l (n + 1) = toldL l n ++ [t] := by
  have gn := g (n + 1)
  have e := take_snoc h
  rw [e, snt_snoc, non_snoc, if_pos rfl] at gn
  simp only [Option.toList, List.append_nil] at gn
  have hlt : non (l.take n) < (snt (l.take n)).length := gn
  refine ⟨(snt (l.take n))[non (l.take n)], (snt (l.take n)).drop (non (l.take n) + 1), ?_, ?_, ?_⟩
  · unfold rowL
    exact List.drop_eq_getElem_cons hlt
  · unfold rowL
    rw [e, snt_snoc, non_snoc, if_pos rfl]
    simp only [Option.toList, List.append_nil]
  · unfold toldL
    rw [e, snt_snoc, non_snoc, if_pos rfl]
    simp only [Option.toList, List.append_nil]
    rw [take_snoc (List.getElem?_eq_getElem hlt)]
theorem Good.snocS {l : List OL} (g : Good l) (t : Lt) : Good (l ++ [Option.some t]) := fun n => by
  by_cases h : n ≤ l.length
  · rw [List.take_append_of_le_length h]
    exact g n
  · rw [List.take_of_length_le (by rw [List.length_append, List.length_singleton]; omega), snt_snoc, non_snoc, if_neg (by simp), List.length_append]
    have := g l.length
    rw [List.take_length] at this
    omega
theorem Good.snocN {l : List OL} (g : Good l) (h : non l < (snt l).length) : Good (l ++ [Option.none]) := fun n => by
  by_cases h' : n ≤ l.length
  · rw [List.take_append_of_le_length h']
    exact g n
  · rw [List.take_of_length_le (by rw [List.length_append, List.length_singleton]; omega), snt_snoc, non_snoc, if_pos rfl, List.length_append]
    omega
theorem Good.nil : Good [] := fun n => by simp [non]
theorem row_le (l : List OL) (n : Nat) : (rowL l n).length ≤ l.length := by
  unfold rowL
  rw [List.length_drop]
  have := snt_le (l.take n)
  rw [List.length_take] at this
  omega
theorem told_le (l : List OL) (n : Nat) : (toldL l n).length ≤ l.length := by
  unfold toldL
  rw [List.length_take]
  have := snt_le (l.take n)
  rw [List.length_take] at this
  omega
theorem row_nil (n : Nat) : rowL [] n = [] := by simp [rowL, snt]
theorem told_nil (n : Nat) : toldL [] n = [] := by simp [toldL, snt]
theorem row_zero (l : List OL) : rowL l 0 = [] := by simp [rowL, snt]
theorem told_zero (l : List OL) : toldL l 0 = [] := by simp [toldL, snt]
theorem row_all (l : List OL) : rowL l l.length = (snt l).drop (non l) := by unfold rowL; rw [List.take_length]
theorem told_all (l : List OL) : toldL l l.length = (snt l).take (non l) := by unfold toldL; rw [List.take_length]
theorem gotG_out {α : Type} : ∀ {kv : List (Door × List α)} {d : Door}, ¬ d ∈ kv.map (·.1) → gotG kv d = []
  | [], _, _ => rfl
  | e :: kv, d, h => by
    rw [gotG_cons, if_neg fun q => h (by rw [← q]; exact List.mem_cons_self ..)]
    exact gotG_out fun q => h (List.mem_cons_of_mem _ q)
theorem putK_len1 (c : List (List Key × V)) (k : List Key) (x : V) : (putK c k x).length ≤ c.length + 1 := by
  cases h : valV c k with
  | none => rw [putK_new _ h, List.length_append]; exact Nat.le_refl _
  | some v =>
    have : (putK c k x).length = c.length := by
      unfold putK
      rw [if_pos (by rw [valV_any, h]; rfl), List.length_map]
    omega
/-! ### how many deeds a book has -/
theorem sum_oneG {x : Door} {a : Nat} {f : Door → Nat} (f0 : f x = 0) : ∀ {ds : List Door}, ds.Nodup → x ∈ ds → (ds.map fun d => if x = d then a else f d).sum = a + (ds.map f).sum
  | [], _, h => nomatch h
  | d :: ds, nd, h => by
    rw [List.nodup_cons] at nd
    rw [List.map_cons, List.sum_cons, List.map_cons, List.sum_cons]
    by_cases z : x = d
    · subst z
      rw [if_pos rfl, f0]
      have : (ds.map fun d => if x = d then a else f d) = ds.map f := List.map_congr_left fun d hd => if_neg fun e => nd.1 (by rw [e]; exact hd)
      rw [this]
      omega
    · rw [if_neg z]
      have m : x ∈ ds := by
        rcases List.mem_cons.mp h with q | q
        · exact absurd q z
        · exact q
      rw [sum_oneG f0 nd.2 m]
      omega
def many {α : Type} (kv : List (Door × List α)) : Nat := (kv.map fun e => e.2.length).sum
theorem sum_bookG {α : Type} {ds : List Door} (nd : ds.Nodup) : ∀ {kv : List (Door × List α)}, (kv.map (·.1)).Nodup → (∀ e ∈ kv, e.1 ∈ ds) → (ds.map fun d => (gotG kv d).length).sum = many kv
  | [], _, hh => by
    have : (ds.map fun d => (gotG ([] : List (Door × List α)) d).length) = ds.map fun _ => 0 := rfl
    rw [this]
    clear nd this hh
    induction ds with
    | nil => rfl
    | cons d ds ih => rw [List.map_cons, List.sum_cons, ih]; rfl
  | e :: kv, ndk, h => by
    rw [List.map_cons, List.nodup_cons] at ndk
    unfold many
    rw [List.map_cons, List.sum_cons]
    have ih := sum_bookG nd ndk.2 fun e he => h e (List.mem_cons_of_mem _ he)
    unfold many at ih
    rw [← ih]
    rw [← sum_oneG (x := e.1) (a := e.2.length) (f := fun d => (gotG kv d).length) (by rw [gotG_out ndk.1]; rfl) nd (h e (List.mem_cons_self ..))]
    congr 1
    refine List.map_congr_left fun d _ => ?_
    rw [gotG_cons]
    split <;> rfl
theorem many_put {α : Type} {d : Door} {x : α} : ∀ {kv : List (Door × List α)}, (kv.map (·.1)).Nodup → many (putG kv d (gotG kv d ++ [x])) = many kv + 1
  | [], _ => rfl
  | e :: kv, ndk => by
    rw [List.map_cons, List.nodup_cons] at ndk
    unfold putG
    by_cases z : e.1 = d
    · rw [if_pos z, gotG_cons, if_pos z]
      unfold many
      rw [List.map_cons, List.sum_cons, List.map_cons, List.sum_cons, List.length_append]
      simp
      omega
    · rw [if_neg z, gotG_cons, if_neg z]
      have ih := many_put (d := d) (x := x) ndk.2
      unfold many at ih ⊢
      rw [List.map_cons, List.sum_cons, List.map_cons, List.sum_cons, ih]
      omega
theorem sum_mono {f g : Door → Nat} (h : ∀ d, f d ≤ g d) : ∀ ds : List Door, (ds.map f).sum ≤ (ds.map g).sum
  | [] => Nat.le_refl _
  | d :: ds => by
    rw [List.map_cons, List.sum_cons, List.map_cons, List.sum_cons]
    have := sum_mono h ds
    have := h d
    omega
/-- the rows of a post at some places of its doors' deeds -/
def rowsOf (ds : List Door) (dk : List (Door × List OL)) (g : Door → Nat) : List (List Lt) := ds.map fun d => rowL (gotG dk d) (g d)
theorem rows_total {ds : List Door} {dk : List (Door × List OL)} {g : Door → Nat} (nd : ds.Nodup) (ndk : (dk.map (·.1)).Nodup) (sub : ∀ e ∈ dk, e.1 ∈ ds) : total (rowsOf ds dk g) ≤ many dk := by
  rw [← sum_bookG nd ndk sub]
  unfold total rowsOf
  rw [List.map_map]
  exact sum_mono (fun d => row_le _ _) ds
theorem rows_set {ds : List Door} {dk : List (Door × List OL)} {g : Door → Nat} {i : Nat} {d : Door} (nd : ds.Nodup) (hi : ds[i]? = some d) (n : Nat) : (rowsOf ds dk g).set i (rowL (gotG dk d) n) = rowsOf ds dk fun x => if x = d then n else g x := by
  refine List.ext_getElem? fun j => ?_
  have hl := (List.getElem?_eq_some_iff.mp hi).1
  unfold rowsOf
  by_cases z : i = j
  · subst z
    rw [List.getElem?_set_self (by rw [List.length_map]; exact hl), List.getElem?_map, hi]
    simp
  · rw [List.getElem?_set_ne z, List.getElem?_map, List.getElem?_map]
    cases hj : ds[j]? with
    | none => rfl
    | some e =>
      have ne : ¬ e = d := fun q => by
        subst q
        have hj' := (List.getElem?_eq_some_iff.mp hj).1
        exact z ((List.getElem_inj nd (h₀ := hl) (h₁ := hj')).mp (by rw [(List.getElem?_eq_some_iff.mp hi).2, (List.getElem?_eq_some_iff.mp hj).2]))
      simp [ne]
theorem gotG_mem {α : Type} {kv : List (Door × List α)} {d : Door} {x : α} (h : x ∈ gotG kv d) : d ∈ kv.map (·.1) := by
  by_cases m : d ∈ kv.map (·.1)
  · exact m
  · rw [gotG_out m] at h
    cases h
theorem gotG_in {α : Type} {kv : List (Door × List α)} {d : Door} (m : d ∈ kv.map (·.1)) : ∃ j : Nat, kv[j]? = some (d, gotG kv d) := by
  induction kv with
  | nil => cases m
  | cons e kv ih =>
    by_cases z : e.1 = d
    · refine ⟨0, ?_⟩
      rw [gotG_cons, if_pos z, ← z]
      rfl
    · have m : d ∈ kv.map (·.1) := by
        rcases List.mem_cons.mp m with q | q
        · exact absurd q.symm z
        · exact q
      obtain ⟨j, hj⟩ := ih m
      exact ⟨j + 1, by rw [gotG_cons, if_neg z]; exact hj⟩
/-! ### a dict of numbers by doors -/
def IntD (N : Hp) (b : Addr) (f : Door → Int) (m : Nat) : Prop := ∃ kvs, N b = some (.dT kvs) ∧ kvs.length ≤ m ∧ ∀ d, (valV kvs (keyD d)).getD (.int 0) = .int (f d)
theorem keyD_eq {a b : Door} : keyD a = keyD b ↔ a = b := ⟨keyD_inj, fun e => by rw [e]⟩
theorem IntD.put {N : Hp} {b : Addr} {f : Door → Int} {m : Nat} (h : IntD N b f m) (d : Door) (x : Int) : ∃ kvs, N b = some (.dT kvs) ∧ kvs.length ≤ m ∧ IntD (upd N b (.dT (putK kvs (keyD d) (.int x)))) b (fun y => if y = d then x else f y) (m + 1) := by
  obtain ⟨kvs, h1, h2, h3⟩ := h
  refine ⟨kvs, h1, h2, _, upd_same, Nat.le_trans (putK_len1 _ _ _) (by omega), fun y => ?_⟩
  show _ = V.int (if y = d then x else f y)
  rw [valV_put]
  by_cases z : y = d
  · rw [if_pos (keyD_eq.mpr z), if_pos z]
    rfl
  · rw [if_neg (fun q => z (keyD_eq.mp q)), if_neg z]
    exact h3 y
theorem IntD.pos {N : Hp} {b : Addr} {f : Door → Int} {m : Nat} {d : Door} (h : IntD N b f m) (p : f d ≠ 0) : ∃ kvs, N b = some (.dT kvs) ∧ kvs.length ≤ m ∧ valV kvs (keyD d) = some (.int (f d)) := by
  obtain ⟨kvs, h1, h2, h3⟩ := h
  refine ⟨kvs, h1, h2, ?_⟩
  have := h3 d
  cases q : valV kvs (keyD d) with
  | none =>
    rw [q] at this
    exact absurd (V.int.inj this).symm p
  | some v =>
    rw [q] at this
    exact congrArg some this
/-- all keys are doors of small numbers -/
def DoorK (k : List Key) : Prop := ∃ i j : Nat, i < 12 ∧ j < 1000 ∧ k = [.inl (i : Int), .inl (j : Int)]
def KeysD (N : Hp) (b : Addr) : Prop := ∀ kvs, N b = some (.dT kvs) → ∀ kv ∈ kvs, DoorK kv.1
theorem putK_mem {kvs : List (List Key × V)} {k : List Key} {v : V} {x : List Key × V} (h : x ∈ putK kvs k v) : x.1 = k ∨ ∃ y ∈ kvs, y.1 = x.1 := by
  cases q : valV kvs k with
  | none =>
    rw [putK_new _ q] at h
    rcases List.mem_append.mp h with h | h
    · exact .inr ⟨x, h, rfl⟩
    · rw [List.mem_singleton] at h
      exact .inl (by rw [h])
  | some w =>
    have e : putK kvs k v = kvs.map fun kv => if kv.1 = k then (kv.1, v) else kv := by
      unfold putK
      rw [if_pos (by rw [valV_any, q]; rfl)]
    rw [e] at h
    obtain ⟨y, hy, rfl⟩ := List.mem_map.mp h
    right
    refine ⟨y, hy, ?_⟩
    split <;> rfl
theorem KeysD.put {N : Hp} {b : Addr} {kvs : List (List Key × V)} {k : List Key} {v : V} (h : KeysD N b) (hb : N b = some (.dT kvs)) (dk : DoorK k) : KeysD (upd N b (.dT (putK kvs k v))) b := fun kvs' e kv hm => by
  rw [upd_same] at e
  obtain rfl := HO.dT.inj (Option.some.inj e)
  rcases putK_mem hm with z | ⟨y, hy, z⟩
  · rw [z]; exact dk
  · rw [← z]; exact h kvs hb y hy
theorem door_key {rs : List Row} {d : Door} (h : d ∈ doorsFrom 0 rs) (r12 : rs.length ≤ 12) (bd : ∀ r ∈ rs, (0 ≤ r.1 ∧ r.1 < 1000) ∧ 0 ≤ r.2.1 ∧ r.2.1 < 1000) : DoorK (keyD d) := by
  obtain ⟨i, hi⟩ := List.mem_iff_getElem?.mp h
  obtain ⟨k, r, h1, h2, h3⟩ := door_of hi
  have hk := (List.getElem?_eq_some_iff.mp h1).1
  have hb := bd r (List.mem_of_getElem? h1)
  rw [Nat.zero_add] at h2
  refine ⟨k, d.2.toNat, by omega, by rcases h3 with h3 | h3 <;> omega, ?_⟩
  unfold keyD
  rw [h2, show ((d.2.toNat : Nat) : Int) = d.2 by rcases h3 with h3 | h3 <;> omega]
/-! ### the deeds as objects -/
def OAt (B : Hp) (x : V) (o : OL) : Prop := match o with
  | none => x = .non
  | some l => ∃ a, x = .ref a ∧ B a = some (.tup l.vs)
theorem OAt.ext {B B' : Hp} (e : Ex B B') {x : V} {o : OL} (h : OAt B x o) : OAt B' x o := by
  cases o with
  | none => exact h
  | some l => obtain ⟨a, h1, h2⟩ := h; exact ⟨a, h1, e _ _ h2⟩
def TupE (B : Hp) (x : V) (l : Lt) : Prop := ∃ a, x = .ref a ∧ B a = some (.tup l.vs)
theorem BkG.ext {α : Type} {E E' : V → α → Prop} {N : Hp} {b : Addr} {kv : List (Door × List α)} (i : ∀ x y, E x y → E' x y) (h : BkG E N b kv) : BkG E' N b kv := by
  obtain ⟨rs, h1, h2, h3, h4⟩ := h.ex
  exact ⟨⟨rs, h1, h2, h3, Paired.mapP h4 fun r e ⟨xs, a1, a2⟩ => ⟨xs, a1, Paired.mapP a2 i⟩⟩, h.nd⟩
theorem BkG.mono {α : Type} {E : V → α → Prop} {N N' : Hp} {b : Addr} {kv : List (Door × List α)} (i : Ex N N') (h : BkG E N b kv) : BkG E N' b kv := by
  obtain ⟨rs, h1, h2, h3, h4⟩ := h.ex
  exact ⟨⟨rs, i _ _ h1, h2, h3, Paired.mapP h4 fun r e ⟨xs, a1, a2⟩ => ⟨xs, i _ _ a1, a2⟩⟩, h.nd⟩
theorem BkG.noTup {α : Type} {E : V → α → Prop} {N : Hp} {b : Addr} {kv : List (Door × List α)} (h : BkG E N b kv) : BkG E (noTup N) b kv := by
  obtain ⟨rs, h1, h2, h3, h4⟩ := h.ex
  exact ⟨⟨rs, noTup_some h1 (fun ys e => by cases e), h2, h3, Paired.mapP h4 fun r e ⟨xs, a1, a2⟩ => ⟨xs, noTup_some a1 (fun ys e => by cases e), a2⟩⟩, h.nd⟩
theorem BkG.book {B N : Hp} {b : Addr} {kv : List (Door × List Lt)} (h : BkG (TupE B) N b kv) : BookAt B N b kv := ⟨h.ex, h.nd⟩
theorem got_gotG (kv : List (Door × List Lt)) (d : Door) : got kv d = gotG kv d := rfl
/-- what d.get(door, []) gives -/
theorem bookG_get {α : Type} {E : V → α → Prop} {N H : Hp} {b f : Addr} {kv : List (Door × List α)} {d : Door} (bk : BkG E N b kv) (eN : Ex N H) (hf : H f = some (.lst [])) :
    ∃ kvs u xs, H b = some (.dT kvs) ∧ (valV kvs (keyD d)).getD (.ref f) = .ref u ∧ H u = some (.lst xs) ∧ Paired E xs (gotG kv d) := by
  by_cases m : d ∈ kv.map (·.1)
  · obtain ⟨j, hj⟩ := gotG_in m
    obtain ⟨kvs, r, xs, h1, h2, h3, h4⟩ := bk.row hj
    exact ⟨kvs, r, xs, eN _ _ h1, by rw [h2]; rfl, eN _ _ h3, h4⟩
  · obtain ⟨rb, hb, _⟩ := bk.ex
    refine ⟨_, f, [], eN _ _ hb, by rw [valV_out m]; rfl, hf, ?_⟩
    rw [gotG_out m]
    exact .nil
theorem bookG_get2 {α : Type} {E : V → α → Prop} {N : Hp} {b f : Addr} {kv : List (Door × List α)} {d : Door} (bk : BkG E N b kv) :
    ∃ kvs u xs, N b = some (.dT kvs) ∧ (valV kvs (keyD d)).getD (.ref f) = .ref u ∧ (N u = some (.lst xs) ∨ (u = f ∧ xs = [])) ∧ Paired E xs (gotG kv d) := by
  by_cases m : d ∈ kv.map (·.1)
  · obtain ⟨j, hj⟩ := gotG_in m
    obtain ⟨kvs, r, xs, h1, h2, h3, h4⟩ := bk.row hj
    exact ⟨kvs, r, xs, h1, by rw [h2]; rfl, .inl h3, h4⟩
  · obtain ⟨rb, hb, _⟩ := bk.ex
    refine ⟨_, f, [], hb, by rw [valV_out m]; rfl, .inr ⟨rfl, rfl⟩, ?_⟩
    rw [gotG_out m]
    exact .nil
theorem gotG_le {α : Type} : ∀ {kv : List (Door × List α)} {d : Door}, (gotG kv d).length ≤ many kv
  | [], _ => Nat.zero_le _
  | e :: kv, d => by
    have ih := gotG_le (kv := kv) (d := d)
    unfold many at ih ⊢
    rw [gotG_cons, List.map_cons, List.sum_cons]
    split <;> omega
theorem goodL {dk : List (Door × List OL)} (h : ∀ e ∈ dk, Good e.2) (d : Door) : Good (gotG dk d) := by
  by_cases m : d ∈ dk.map (·.1)
  · obtain ⟨j, hj⟩ := gotG_in m
    exact h _ (List.mem_of_getElem? hj)
  · rw [gotG_out m]
    exact .nil
theorem putG_good {dk : List (Door × List OL)} {d : Door} {l : List OL} (h : ∀ e ∈ dk, Good e.2) (g : Good l) : ∀ e ∈ putG dk d l, Good e.2 := by
  induction dk with
  | nil =>
    intro e he
    obtain rfl := List.mem_singleton.mp (show e ∈ [(d, l)] from he)
    exact g
  | cons e0 dk ih =>
    intro e he
    unfold putG at he
    by_cases z : e0.1 = d
    · rw [if_pos z] at he
      rcases List.mem_cons.mp he with rfl | he
      · exact g
      · exact h e (List.mem_cons_of_mem _ he)
    · rw [if_neg z] at he
      rcases List.mem_cons.mp he with rfl | he
      · exact h _ (List.mem_cons_self ..)
      · exact ih (fun e h' => h e (List.mem_cons_of_mem _ h')) e he
theorem putG_sub {α : Type} {P : Door → Prop} {dk : List (Door × List α)} {d : Door} {l : List α} (h : ∀ e ∈ dk, P e.1) (hd : P d) : ∀ e ∈ putG dk d l, P e.1 := fun e he => by
  rcases putG_mem (List.mem_map.mpr ⟨e, he, rfl⟩) with q | q
  · rw [q]; exact hd
  · obtain ⟨e', h1, h2⟩ := List.mem_map.mp q
    rw [← h2]
    exact h e' h1
/-- what is new joins a book -/
theorem Paired.snocG {α β : Type} {P : α → β → Prop} {x : α} {y : β} (h : P x y) : ∀ {xs : List α} {ys : List β}, Paired P xs ys → Paired P (xs ++ [x]) (ys ++ [y])
  | _, _, .nil => .cons h .nil
  | _, _, .cons a t => .cons a (Paired.snocG h t)
/-- where all deeds stand -/
structure DeedsAt (B : Hp) (f : Addr) (dk : List (Door × List OL)) : Prop where
  bk : BkG (OAt B) B f dk
  good : ∀ e ∈ dk, Good e.2
theorem DeedsAt.ext {B B' : Hp} {f : Addr} {dk : List (Door × List OL)} (e : Ex B B') (h : DeedsAt B f dk) : DeedsAt B' f dk := ⟨(h.bk.mono e).ext fun _ _ z => z.ext e, h.good⟩
theorem DeedsAt.goodG {B : Hp} {f : Addr} {dk : List (Door × List OL)} (h : DeedsAt B f dk) (d : Door) : Good (gotG dk d) := by
  by_cases m : d ∈ dk.map (·.1)
  · obtain ⟨j, hj⟩ := gotG_in m
    exact h.good _ (List.mem_of_getElem? hj)
  · rw [gotG_out m]
    exact .nil
end K19

set_option maxHeartbeats 1000000
namespace K19
open PySem PySem.Spec PyProof.Rows L2 Evl MyG
def sp_row : Sp := fun vs H Q _ => ∃ (s c L : Addr) (B : Hp) (ts : List V) (rs : List Row) (m : Int), vs = [.ref s, .ref L, .int m] ∧ Wd s c B H ∧ B L = some (.lst ts) ∧ RowsAt B ts rs ∧ 1 ≤ rs.length ∧ rs.length ≤ 12 ∧ 0 ≤ m ∧ m ≤ 60 ∧ (∀ r ∈ rs, r.1 ≠ r.2.1) ∧
  ∀ f dk B' H', Ex B B' → Wd s c B' H' → DeedsAt B' f dk → (∀ e ∈ dk, e.1 ∈ doorsFrom 0 rs) → many dk ≤ 60 → Q (.ref f) H'
theorem tt_mid {t : TT} {σ : L2.St} {H : Hp} {Q : Bool → Hp → Prop} (P : Bool → Hp → Prop) (hA : ∀ N : Bool → Hp → Prop, (∀ c H', P c H' → N c H') → t σ H N) (hR : ∀ c H', P c H' → Q c H') : t σ H Q := hA Q hR
section
variable {P : Program} {w : World} {K : PySem.W.Frag} {mg : Str → Option Value} {base : Heap}
theorem ok_row (T : Tx K mg) : FnOk P w K mg base CX0 5 T.a_l_row T.d_l_row ["_law_state_here", "_law_links", "_law_many"] sp_row := by
  have G_l_draw := ok_draw (P := P) (w := w) (base := base) T
  have G_l_letter := ok_letterN (P := P) (w := w) (base := base) T
  refine T.F_l_row.ok sc_l_row (fun vs H Q E h => ?_) (fun cdv A outer s H vs Q E hr h => ?_)
  · obtain ⟨_, _, _, _, _, _, _, rfl, _⟩ := h
    rfl
  · obtain ⟨s, c, L, B, ts, rs, m, rfl, W, hL, hts, r1, r12, m0, m60, hne, q⟩ := h
    refine ⟨_, (pss_cons (ps_par (i := 3) (j := 4) rfl sc_l_row.nd rfl rfl (by decide) rfl rfl (pa_cons pe_dnewT (pa_cons pe_dnewT pa_nil)) (by rfl))
  (pss_cons (ps_for PassesOwn.never rfl (pi_range1 rfl T.z_range (pa_cons (pv 2) pa_nil)) (pg_name (i := 5) sc_l_row.nd rfl (Or.inl rfl))
   (pss_cons (ps_set (i := 6) sc_l_row.nd rfl (Or.inl rfl) (pe_call G_l_draw (hr.mono (by decide)) (by rfl) T.g_l_draw T.F_l_draw.kp T.b_l_draw .nil pass0 (pa_cons (pv 0) (pa_cons (pe_callB (lenK (K := K) rfl) (by rfl) T.z_len (by decide +kernel) (pa_cons (pv 1) pa_nil)) pa_nil))))
  (pss_cons (ps_set (i := 7) sc_l_row.nd rfl (Or.inl rfl) (pe_tup (pa_cons (pv 6) (pa_cons (pe_ix (ix_tupK (K := K) rfl) (pe_ix (ix_listK (K := K) rfl) (pv 1) (pv 6) (fun _ _ => rfl)) (pe_call G_l_draw (hr.mono (by decide)) (by rfl) T.g_l_draw T.F_l_draw.kp T.b_l_draw .nil pass0 (pa_cons (pv 0) (pa_cons pe_int pa_nil))) (fun _ _ => rfl)) pa_nil))))
  (pss_one (ps_if (PW.pt (pw_and (pt_cmpR op_gt (pe_dget2 (hu_of hr) (pv 4) (pv 7) pe_int ⟨rfl, rfl, rfl, rfl⟩) pe_int (nomark _)) (pw_and1 (pt_cmpR op_eq (pe_call G_l_draw (hr.mono (by decide)) (by rfl) T.g_l_draw T.F_l_draw.kp T.b_l_draw .nil pass0 (pa_cons (pv 0) (pa_cons pe_int pa_nil))) pe_int (nomark _))))) (pss_cons (ps_dput (hu_of hr) (pv 3) (pv 7) (pe_op op_cat (pe_dget (Nat.lt_of_le_of_lt (Nat.add_le_add_left (by decide) _) hr.units) (pv 3) (pv 7) (fun _ _ => rfl)) (pe_lst (pa_cons pe_non pa_nil))) rfl)
  (pss_one (ps_dput (hu_of hr) (pv 4) (pv 7) (pe_op op_sub (pe_dget (Nat.lt_of_le_of_lt (Nat.add_le_add_left (by decide) _) hr.units) (pv 4) (pv 7) (fun _ _ => rfl)) pe_int) rfl))) (pss_cons (ps_dput (hu_of hr) (pv 3) (pv 7) (pe_op op_cat (pe_dget2 (hu_of hr) (pv 3) (pv 7) (pe_lst pa_nil) ⟨rfl, rfl, rfl, rfl⟩) (pe_lst (pa_cons (pe_call G_l_letter (hr.mono (by decide)) (by rfl) T.g_l_letter T.F_l_letter.kp T.b_l_letter .nil pass0 (pa_cons (pv 0) pa_nil)) pa_nil))) rfl)
  (pss_one (ps_dput (hu_of hr) (pv 4) (pv 7) (pe_op op_add (pe_dget2 (hu_of hr) (pv 4) (pv 7) pe_int ⟨rfl, rfl, rfl, rfl⟩) pe_int) rfl))))))))
  (pss_one (ps_ret (pv 3))))), ?_⟩
    have tl := Paired.length hts
    have W0 : Wld s c B [] H := ⟨W, fun _ h => absurd h (by simp), fun _ h => absurd h (by simp), fun _ h => absurd h (by simp), .nil⟩
    refine fun F hF Lf hLf => ⟨_, _, rfl, ?_⟩
    have W1 := ((W0.one (o := .dT []) hF).one (o := .dT []) hLf).swap
    show tSeq _ _ _ _ _
    refine ⟨_, rfl, m, rfl, by omega, by omega, ?_⟩
    refine for_it (walk_range (lo := 0) (n := m.toNat)) (fun i σ H' => ∃ (y5 y6 y7 : Option V) (B' N N2 : Hp) (dk : List (Door × List OL)) (f : Door → Int), σ = [some (.ref s), some (.ref L), some (.int m), some (.ref F), some (.ref Lf), y5, y6, y7] ∧
      Ex B B' ∧ Wld s c B' [N, N2] H' ∧ BkG (OAt B') N F dk ∧ IntD N2 Lf f i ∧ (∀ e ∈ dk, Good e.2) ∧ (∀ e ∈ dk, e.1 ∈ doorsFrom 0 rs) ∧ many dk = i ∧ ∀ d, f d = ((snt (gotG dk d)).length : Int) - (non (gotG dk d) : Nat))
      ⟨_, _, _, B, _, _, [], fun _ => 0, rfl, Ex.refl _, W1, ⟨⟨[], upd_same, List.nodup_nil, rfl, .nil⟩, List.nodup_nil⟩, ⟨[], upd_same, Nat.zero_le _, fun d => rfl⟩, fun e h => absurd h (by simp), fun e h => absurd h (by simp), rfl, fun d => rfl⟩ (fun _ _ _ _ _ => True.intro) ?_ ?_
    · rintro i x σ Ha Ha' hi ⟨y5, y6, y7, B', N, N2, dk, f, rfl, eB, W', bk, int, gd, sub, mn, hf⟩ ⟨rfl, rfl⟩
      have hL' := W'.w.ex _ _ (eB _ _ hL)
      show tSeq _ _ _ _ _
      refine ⟨_, rfl, _, rfl, L, ts, rfl, .inl (SqL.of hL'), s, c, _, rfl, W'.st, by omega, by omega, fun a H4 a0 a1 st4 of4 => ?_⟩
      have W4 := W'.drawn st4 of4
      obtain ⟨k, rfl⟩ : ∃ k : Nat, a = (k : Int) := ⟨a.toNat, by omega⟩
      have hk : k < rs.length := by omega
      obtain ⟨r, hr'⟩ : ∃ r, rs[k]? = some r := ⟨_, List.getElem?_eq_getElem hk⟩
      have ht' : ts[k]? = some (ts[k]'(by omega)) := List.getElem?_eq_getElem (by omega)
      obtain ⟨r', hr2, ta, hta, hrow⟩ := paired_at hts ht'
      rw [hr'] at hr2
      obtain rfl := Option.some.inj hr2
      rw [hta] at ht'
      show tSeq _ _ _ _ _
      refine ⟨_, rfl, _, rfl, _, rfl, L, ts, k, _, rfl, rfl, SqL.of (W4.w.ex _ _ (eB _ _ hL)), atI_nat ht', _, rfl, s, c, 2, rfl, W4.st, by decide, by decide, fun z H6 z0 z1 st6 of6 => ?_⟩
      have W6 := W4.drawn st6 of6
      obtain ⟨h0, hor, hat⟩ : ∃ h0 : Int, (h0 = r.1 ∨ h0 = r.2.1) ∧ atI (rowV r) z = some (.int h0) := by
        rcases (show z = 0 ∨ z = 1 by omega) with rfl | rfl
        · exact ⟨r.1, .inl rfl, rfl⟩
        · exact ⟨r.2.1, .inr rfl, rfl⟩
      refine ⟨ta, _, z, _, rfl, rfl, SqT.of (W6.w.ex _ _ (eB _ _ hrow)), hat, by show 2 ≤ sizeLine; decide, fun td htd => ?_⟩
      have W7 := W6.newK (o := .tup (doorV ((k : Int), h0))) htd
      have e7 : Ex B' (upd B' td (.tup (doorV ((k : Int), h0)))) := ex_know (W6.none htd)
      have ktd : (upd B' td (.tup (doorV ((k : Int), h0)))) td = some (.tup (doorV ((k : Int), h0))) := upd_same
      generalize upd B' td (.tup (doorV ((k : Int), h0))) = B7 at W7 e7 ktd
      have W7 : Wld s c B7 [N, N2] (upd H6 td (.tup [.int (k : Int), .int h0])) := W7
      generalize upd H6 td (.tup [.int (k : Int), .int h0]) = H7 at W7
      have hd0 : ((k : Int), h0) ∈ doorsFrom 0 rs := by
        obtain ⟨i1, j1, a1, a2, _⟩ := two_doors hr' (hne r (List.mem_of_getElem? hr'))
        rcases hor with rfl | rfl
        · exact List.mem_of_getElem? a1
        · exact List.mem_of_getElem? a2
      clear W6 W4 W' st6 of6 st4 of4
      have bk7 := bk.ext fun _ _ z => OAt.ext e7 z
      dsimp only
      generalize hdd : ((k : Int), h0) = d at ktd hd0
      show tIfS _ _ _ _ _ _
      refine tt_mid (fun c5 H5 => Wld s c B7 [N, N2] H5 ∧ (c5 = true → f d ≠ 0 ∧ 0 < f d)) (fun Nx hN => ?_) ?_
      · obtain ⟨kvs, k1, k2, k3⟩ := int
        have kH := W7.ex N2 (by simp) _ _ k1
        refine ⟨_, rfl, Lf, rfl, .inr ⟨_, .inl kH⟩, _, rfl, valV kvs (keyD d), DGet.t (k := keyD d) kH (W7.w.ex _ _ ktd), ?_⟩
        dsimp only
        rw [k3 d]
        refine ⟨_, _, rfl, rfl, _, rfl, ?_⟩
        refine ite2 (fun c1 => ?_) (fun c1 => hN _ _ ⟨W7, fun z => by cases z⟩)
        have c1 : 0 < f d := by simpa using c1
        refine ⟨_, rfl, s, c, 3, rfl, W7.st, by decide, by decide, fun z8 H8 _ _ st8 of8 => ⟨rfl, _, rfl, hN _ _ ⟨W7.drawn st8 of8, fun _ => ⟨by omega, c1⟩⟩⟩⟩
      · rintro c5 H5 ⟨W5, hc5⟩
        have ktd5 := W5.w.ex _ _ ktd
        have eN5 := W5.ex N (by simp)
        have eM5 := W5.ex N2 (by simp)
        have few : dk.length ≤ 24 := by
          have := len_subD bk.nd (fun d hd => by
            obtain ⟨e, he, rfl⟩ := List.mem_map.mp hd
            exact sub e he) (ys := doorsFrom 0 rs)
          rw [List.length_map, doors_len] at this
          omega
        refine ite2 (fun cc => ?_) (fun cc => ?_)
        · obtain ⟨f1, f2⟩ := hc5 cc
          have md : d ∈ dk.map (·.1) := by
            by_cases m : d ∈ dk.map (·.1)
            · exact m
            · have := hf d
              rw [gotG_out m] at this
              exact absurd this (by simpa [snt, non] using f1)
          obtain ⟨j, hj⟩ := gotG_in md
          obtain ⟨kvs, r0, xs, k1, k2, k3, k4⟩ := bk7.row hj
          show tSeq _ _ _ _ _
          refine ⟨_, rfl, _, rfl, F, .ref r0, rfl, dget_door (eN5 _ _ k1) ktd5 k2, ?_⟩
          obtain ⟨kls, n1, n2, int2⟩ := int.put d (f d - 1)
          obtain ⟨_, n1', _, n3⟩ := int.pos f1
          obtain rfl : kls = _ := HO.dT.inj (Option.some.inj (n1.symm.trans n1'))
          have lx := Paired.length k4
          have gl := gotG_le (kv := dk) (d := d)
          have im : i < m.toNat := hi
          refine ⟨by show 1 ≤ sizeLine; decide, fun g hg => ⟨r0, g, xs, [.non], rfl, rfl, Ex.new hg _ _ (eN5 _ _ k3), upd_same, Nat.le_of_lt (len_lt (by rw [List.length_singleton]; omega)), fun y hy => ?_⟩⟩
          have e8 := Ex.new (o := .lst [.non]) hg
          have eN8 := eN5.trans e8
          obtain ⟨kvs', p1, p2, bk9⟩ := bk7.put (d := d) (xs := xs ++ [.non]) (l := gotG dk d ++ [none]) eN8 hy (Paired.snocG (show OAt B7 .non none from rfl) k4)
          obtain rfl : kvs = kvs' := HO.dT.inj (Option.some.inj (k1.symm.trans p1))
          have c1 := (Chg.ext eN5 e8).trans (Chg.new (o := .lst (xs ++ [.non])) eN8 hy)
          have fb : F ≠ y := ne_of_none (eN8 _ _ p1) hy
          have nb : (upd N y (.lst (xs ++ [.non]))) F = some (.dT kvs) := by rw [upd_ne fb]; exact p1
          have ktd9 := Ex.new (o := .lst (xs ++ [.non])) hy _ _ (e8 _ _ ktd5)
          refine ⟨_, rfl, _, rfl, F, _, rfl, DPut.t (k := keyD d) (c1.now _ _ nb) ktd9 (len_lt (by omega)), ?_⟩
          have W9 := W5.chg (c1.trans (Chg.put (o := .dT (putK kvs (keyD d) (.ref y))) c1.now nb))
          have ktdA := W9.w.ex _ _ ktd
          have eM9 := W9.ex N2 (by simp)
          dsimp only
          refine ⟨_, rfl, _, rfl, Lf, .int (f d), rfl, dget_door (eM9 _ _ n1) ktdA n3, _, _, rfl, rfl, _, rfl, _, rfl, Lf, _, rfl, DPut.t (k := keyD d) (eM9 _ _ n1) ktdA (len_lt (by omega)), ?_⟩
          have W10 := (W9.swap.chg (Chg.put (o := .dT (putK kls (keyD d) (.int (f d - 1)))) eM9 n1)).swap
          have ng : non (gotG dk d) < (snt (gotG dk d)).length := by
            have := hf d
            omega
          refine ⟨_, _, _, B7, _, _, _, _, rfl, eB.trans e7, W10, bk9, int2, putG_good gd ((goodL gd d).snocN ng), putG_sub sub hd0, by rw [many_put bk.nd, mn], fun d' => ?_⟩
          rw [gotG_put]
          by_cases z : d' = d
          · subst z
            rw [if_pos rfl, if_pos rfl, snt_snoc, non_snoc, if_pos rfl, hf d']
            simp only [Option.toList, List.append_nil]
            omega
          · rw [if_neg z, if_neg (Ne.symm z)]
            exact hf d'
        · obtain ⟨kls, n1, n2, int2⟩ := int.put d (f d + 1)
          have n3 : (valV kls (keyD d)).getD (.int 0) = .int (f d) := by
            obtain ⟨kls', m1, m2, m3⟩ := id int
            obtain rfl : kls = _ := HO.dT.inj (Option.some.inj (n1.symm.trans m1))
            exact m3 d
          have gl := gotG_le (kv := dk) (d := d)
          have im : i < m.toNat := hi
          show tSeq _ _ _ _ _
          obtain ⟨rbx, hbx, _⟩ := bk7.ex
          refine ⟨_, rfl, F, rfl, .inr ⟨_, .inl (eN5 _ _ hbx)⟩, _, rfl, Nat.zero_le _, fun fz hfz => ?_⟩
          obtain ⟨kvs, u, xs, k1, k2, k3, k4⟩ := bookG_get2 (f := fz) (d := d) bk7
          have lx := Paired.length k4
          have W8 := W5.newK (o := .lst []) hfz
          have e8 : Ex B7 (upd B7 fz (.lst [])) := ex_know (W5.none hfz)
          have k8 : (upd B7 fz (.lst [])) fz = some (.lst []) := upd_same
          generalize upd B7 fz (.lst []) = B8 at W8 e8 k8
          generalize upd H5 fz (.lst []) = H8 at W8
          refine ⟨valV kvs (keyD d), DGet.t (k := keyD d) (W8.ex N (by simp) _ _ k1) (W8.w.ex _ _ (e8 _ _ ktd)), ?_⟩
          rw [k2]
          refine ⟨_, rfl, s, c, rfl, W8.st, fun l t H9 t0 t3 st9 kept9 => ?_⟩
          have W9 := (W8.kept st9 kept9).know t3 (W8.st.ne_s t0) (W8.st.ne_c t0) (W8.fresh t0)
          have e9 : Ex B8 (upd B8 t (.tup l.vs)) := ex_know (W8.none t0)
          have kt : (upd B8 t (.tup l.vs)) t = some (.tup l.vs) := upd_same
          generalize upd B8 t (.tup l.vs) = B9 at W9 e9 kt
          have hu9 : H9 u = some (.lst xs) := by
            rcases k3 with k3 | ⟨rfl, rfl⟩
            · exact W9.ex N (by simp) _ _ k3
            · exact W9.w.ex _ _ (e9 _ _ k8)
          have eN9 := W9.ex N (by simp)
          have ktd9 := W9.w.ex _ _ ((e8.trans e9) _ _ ktd)
          refine ⟨by show 1 ≤ sizeLine; decide, fun g hg => ⟨u, g, xs, [.ref t], rfl, rfl, Ex.new hg _ _ hu9, upd_same, Nat.le_of_lt (len_lt (by rw [List.length_singleton]; omega)), fun y hy => ?_⟩⟩
          have eg := Ex.new (o := .lst [.ref t]) hg
          have eNg := eN9.trans eg
          have bk8 := bk7.ext fun _ _ z => OAt.ext (e8.trans e9) z
          obtain ⟨kvs', p1, p2, bk10⟩ := bk8.put (d := d) (xs := xs ++ [.ref t]) (l := gotG dk d ++ [some l]) eNg hy (Paired.snocG ⟨t, rfl, kt⟩ (Paired.mapP k4 fun _ _ z => OAt.ext (e8.trans e9) z))
          obtain rfl : kvs = kvs' := HO.dT.inj (Option.some.inj (k1.symm.trans p1))
          have c1 := (Chg.ext eN9 eg).trans (Chg.new (o := .lst (xs ++ [.ref t])) eNg hy)
          have fb : F ≠ y := ne_of_none (eNg _ _ p1) hy
          have nb : (upd N y (.lst (xs ++ [.ref t]))) F = some (.dT kvs) := by rw [upd_ne fb]; exact p1
          have ktd10 := Ex.new (o := .lst (xs ++ [.ref t])) hy _ _ (eg _ _ ktd9)
          refine ⟨_, rfl, _, rfl, F, _, rfl, DPut.t (k := keyD d) (c1.now _ _ nb) ktd10 (len_lt (by omega)), ?_⟩
          have W10 := W9.chg (c1.trans (Chg.put (o := .dT (putK kvs (keyD d) (.ref y))) c1.now nb))
          have ktdA := W10.w.ex _ _ ((e8.trans e9) _ _ ktd)
          have eM10 := W10.ex N2 (by simp)
          dsimp only
          refine ⟨_, rfl, Lf, rfl, .inr ⟨_, .inl (eM10 _ _ n1)⟩, _, rfl, valV kls (keyD d), DGet.t (k := keyD d) (eM10 _ _ n1) ktdA, ?_⟩
          dsimp only
          rw [n3]
          refine ⟨_, _, rfl, rfl, _, rfl, _, rfl, Lf, _, rfl, DPut.t (k := keyD d) (eM10 _ _ n1) ktdA (len_lt (by omega)), ?_⟩
          have W11 := (W10.swap.chg (Chg.put (o := .dT (putK kls (keyD d) (.int (f d + 1)))) eM10 n1)).swap
          refine ⟨_, _, _, B9, _, _, _, _, rfl, (eB.trans e7).trans (e8.trans e9), W11, bk10, int2, putG_good gd ((goodL gd d).snocS l), putG_sub sub hd0, by rw [many_put bk.nd, mn], fun d' => ?_⟩
          rw [gotG_put]
          by_cases z : d' = d
          · subst z
            rw [if_pos rfl, if_pos rfl, snt_snoc, non_snoc, if_neg (by simp), hf d', List.length_append]
            simp only [Option.toList, List.length_singleton]
            omega
          · rw [if_neg z, if_neg (Ne.symm z)]
            exact hf d'
    · rintro σ H' ⟨y5, y6, y7, B', N, N2, dk, f, rfl, eB, W', bk, int, gd, sub, mn, hf⟩
      refine ⟨_, rfl, ?_⟩
      have WA := (W'.swap.drop).all
      have WA' : Wd s c (allBut s c [] H') H' := by
        have := (W'.swap.drop.drop).all
        exact this.w
      refine q F dk _ H' (eB.trans (W'.swap.drop.drop).knows) WA' ⟨?_, gd⟩ sub (by omega)
      have kn := (W'.swap.drop.drop).knows
      refine (bk.mono (N' := allBut s c [] H') fun a o h => W'.swap.drop.yield h).ext fun _ _ z => OAt.ext kn z
end
end K19

set_option maxHeartbeats 1000000
/-! sorted(d) of a dict whose keys are pairs of ints -/
namespace L2
open PySem PySem.Spec PyProof.Rows
def rSortedDT : List V → Hp → VK → Prop := fun vs H Q => ∃ (a : Addr) (kvs : List (List Key × V)) (k : V → Int × Int), vs = [V.ref a] ∧ Rd H a (.dT kvs) ∧ ∀ bs : List Addr, IsKeys H kvs bs → (∀ b ∈ bs, H b = some (.tup [.int (k (.ref b)).1, .int (k (.ref b)).2])) ∧
  ∀ ys p, SrtO.Srtd (ltP k) ys → SrtO.Stb (ltP k) ys (bs.map V.ref) → H p = none → Q (.ref p) (upd H p (.lst ys))
section
variable {X : Cx}
theorem call_sortedDT (hc : X.calm = true) : CallR X (.builtin "sorted") rSortedDT := by
  intro pins s σ H xs us Q I r h
  obtain ⟨d, kvs, k, rfl, hd, q⟩ := h
  obtain ⟨u, rfl, rx⟩ := r.one
  cases rx
  obtain ⟨z, hs, ks, pr, o, es, ep, ho, hx, hdt, he, hn⟩ := (show ObjOk X.prog X.w H s.heap d (.dT kvs) from hd.ok I.hok)
  have l1 : es.size = ks.length := size_of_entries he
  have l2 : kvs.length = ks.length := Paired.length pr
  obtain ⟨q1, q2⟩ := q _ (isKeys_of pr)
  refine Calls.call_function_entry PyProof.Rows.kind_sorted PyProof.Rows.plain_sorted PyProof.Rows.entry_sorted (PyProof.Rows.args_sorted1 _) ?_
  unfold Builtin.«sorted»
  refine wpAny_bind (m := checkCount "sorted" 1 1 _) (wpAny_pure ?_)
  refine wpAny_bind (PySem.W.kdu_collect (A := X.A.in1) (kdl_raw hs hx hdt) (I.ok.hd hc) ho (by omega) fun h' tk acc hk it => ?_)
  have ea : acc.toList = (ks.map fun x => x.2.1).map Value.ref := by
    rw [List.map_map]
    have hl : acc.toList.length = ks.length := by rw [Array.length_toList, it.1]; exact l1
    apply List.ext_getElem?
    intro j
    rw [List.getElem?_map]
    cases hj : acc.toList[j]? with
    | none =>
      have h1 := List.getElem?_eq_none_iff.mp hj
      rw [List.getElem?_eq_none (by omega)]
      all_goals rfl
    | some v =>
      obtain ⟨en, hen, hv⟩ := it.2 j v (by rw [← Array.getElem?_toList]; exact hj)
      have qe := entry_at he j
      rw [hen] at qe
      cases hb : ks[j]? with
      | none =>
        rw [hb] at qe
        exact nomatch (show some en = none from qe)
      | some b =>
        rw [hb] at qe
        have e2 : en = entryOfKey (tupleKind (mixKind X.prog X.w)) b := Option.some.inj qe
        rw [hv, e2]
        all_goals rfl
  generalize ks.map (fun x => x.2.1) = bs at ea q1 q2
  have hz : acc.toList.length ≤ sizeLine := by rw [Array.length_toList, it.1]; omega
  have I1 : Inv X pins σ H { s with heap := h', toks := tk } := I.kept hk
  refine wpAny_bind (wpAny_newList ?_ hz)
  have hoL : (h'.push (seqObj "list" acc.toList.toArray 0)).get? h'.objs.size = some (seqObj "list" acc.toList.toArray 0) := Heap.get?_push_size _ rfl
  show wpAny _ _ _ _ _ { s with heap := h'.push (seqObj "list" acc.toList.toArray 0), toks := tk }
  have pairs : ∀ v ∈ acc.toList, Srt.IsPair h' v (k (backV v)).1 (k (backV v)).2 := fun v hv => by
    rw [ea] at hv
    obtain ⟨b, hb, rfl⟩ := List.mem_map.mp hv
    obtain ⟨_, its2, r2, o2, ho2, hc2, n2, hd2⟩ := I1.hok _ _ (q1 b hb)
    obtain ⟨u1, u2, rfl, ri, rj⟩ := vals2 r2
    obtain ⟨t1, rfl⟩ := ri
    obtain ⟨t2, rfl⟩ := rj
    exact ⟨b, o2, t1, t2, n2, rfl, ho2, hc2, hd2⟩
  refine wpAny_bind (wpAny_holding (wpAny_call_entry PyProof.Rows.slot_list_sort ⟨_, hoL, rfl⟩ PyProof.Rows.entry_list_sort (SrtO.list_sort_ord (SrtO.swo_lex fun v => k (backV v)) hoL hz (fun h2 => ?_) fun out hsr hsb => ⟨_, rfl, ?_⟩) (PyProof.Rows.args_list_sort _)))
  · refine SrtO.pairs_sortableO (s := { s with heap := h'.push (seqObj "list" acc.toList.toArray 0), toks := tk }) (k := fun v => k (backV v)) (by omega) (fun v hm => (pairs v hm).keeps fun b o e _ => Heap.get?_push_of_some _ e) fun o e => ?_
    have e' : some o = some (seqObj "list" acc.toList.toArray 0) := e.symm.trans hoL
    cases e'
    intro c
    exact absurd (Value.type.inj c) (by decide)
  · obtain ⟨e', he'⟩ := PyProof.Rows.sortedHeap_at (vs := acc.toList) (out := out.toArray) hoL
    have h3 : ∀ u ∈ out, ∃ a, u = Value.ref a := fun u hu => by
      have hm := hsb.perm.mem_iff.mp hu
      rw [ea] at hm
      obtain ⟨b, _, rfl⟩ := List.mem_map.mp hm
      exact ⟨b, rfl⟩
    have hb : SrtO.Stb (ltP k) (out.map backV) (bs.map V.ref) := by
      have e1 : bs.map V.ref = acc.toList.map backV := by
        rw [ea, List.map_map]
        rfl
      rw [e1]
      exact SrtO.Stb.map (ltP_swo k) backV hsb
    have hlen : (out.map backV).length ≤ sizeLine := by
      rw [hb.len, List.length_map]
      rw [ea, List.length_map] at hz
      exact hz
    refine wpAny_pure ⟨_, rfl, .ref h'.objs.size, upd H h'.objs.size (.lst (out.map backV)), I1.laid (t' := tk) (fun b u e => ?_) (Nat.le_refl _) ⟨hlen, out, e', vals_back h3, he'⟩, rfl, q2 _ _ (SrtO.srtd_map hsr) hb (I1.hok.fresh (Nat.le_refl _))⟩
    have hb : b < h'.objs.size := Heap.lt_size e
    rw [PyProof.Rows.sortedHeap_old (Nat.ne_of_lt hb) (by rw [PyProof.Rows.size_push']; exact Nat.lt_succ_of_lt hb)]
    exact Heap.get?_push_of_some _ e
theorem sortedDTK (hc : X.calm = true) : CallR X (.builtin "sorted") rSortedDT := call_sortedDT hc
end
end L2

set_option maxHeartbeats 1000000
namespace K19
open PySem PySem.Spec PyProof.Rows L2 Evl MyG
theorem sort_doorsD {H : Hp} {a : Addr} {ds : List Door} {rs : List Addr} {Q : VK} (ha : Rd H a (.dT (kvsOf ds rs))) (hl : rs.length = ds.length) (nd : ds.Nodup)
    (q : ∀ p ys dd', dd'.Perm ds → dd'.Pairwise dLt → DoorsAt H ys dd' → H p = none → Q (.ref p) (upd H p (.lst ys))) : rSortedDT [.ref a] H Q := by
  refine ⟨a, _, dOf H, rfl, ha, fun bs hk => ?_⟩
  obtain ⟨e, m⟩ := (keys_doors hl hk).map
  refine ⟨fun b hb => ?_, fun ys p so st hp => ?_⟩
  · obtain ⟨t, h1, h2⟩ := m (.ref b) (List.mem_map.mpr ⟨b, hb, rfl⟩)
    obtain rfl := V.ref.inj h1
    exact h2
  have pm := st.perm
  have my : ∀ x ∈ ys, ∃ t, x = .ref t ∧ H t = some (.tup (doorV (dOf H x))) := fun x hx => m x (pm.mem_iff.mp hx)
  refine q p ys (ys.map (dOf H)) (by rw [← e]; exact pm.map _) ?_ (doorsAt_of my) hp
  have nd2 : (ys.map (dOf H)).Nodup := (pm.map (dOf H)).symm.nodup (by rw [e]; exact nd)
  rw [List.pairwise_map]
  rw [List.Nodup, List.pairwise_map] at nd2
  refine List.Pairwise.imp₂ (fun x y h1 h2 => ?_) so nd2
  have h1 : SrtO.lexB (dOf H y) (dOf H x) = false := h1
  generalize dOf H x = u at h1 h2 ⊢
  generalize dOf H y = v at h1 h2 ⊢
  obtain ⟨u1, u2⟩ := u
  obtain ⟨v1, v2⟩ := v
  have ne : ¬ (u1 = v1 ∧ u2 = v2) := fun z => h2 (by rw [z.1, z.2])
  have h3 : ¬ (v1 < u1 ∨ (v1 = u1 ∧ v2 < u2)) := fun z => by
    rw [SrtO.lexB_iff.mpr z] at h1
    cases h1
  show u1 < v1 ∨ (u1 = v1 ∧ u2 < v2)
  omega
/-- each door as often as it has deeds -/
def spread (dk : List (Door × List OL)) (dd : List Door) : List Door := dd.flatMap fun d => List.replicate (gotG dk d).length d
theorem spread_count {dk : List (Door × List OL)} {d : Door} : ∀ {dd : List Door}, dd.Nodup → (spread dk dd).count d = if d ∈ dd then (gotG dk d).length else 0
  | [], _ => by simp [spread]
  | e :: dd, nd => by
    rw [List.nodup_cons] at nd
    have ih := spread_count (dk := dk) (d := d) nd.2
    unfold spread at ih ⊢
    rw [List.flatMap_cons, List.count_append, ih, List.count_replicate]
    by_cases z : e = d
    · subst z
      rw [if_neg nd.1]
      simp
    · have : ¬ d = e := fun q => z q.symm
      simp [z, this]
theorem spread_len {dk : List (Door × List OL)} : ∀ dd : List Door, (spread dk dd).length = (dd.map fun d => (gotG dk d).length).sum
  | [] => rfl
  | e :: dd => by
    have ih := spread_len (dk := dk) dd
    unfold spread at ih ⊢
    rw [List.flatMap_cons, List.length_append, ih, List.length_replicate, List.map_cons, List.sum_cons]
theorem doors_app {H : Hp} : ∀ {xs ys : List V} {a b : List Door}, DoorsAt H xs a → DoorsAt H ys b → DoorsAt H (xs ++ ys) (a ++ b)
  | _, _, _, _, .nil, h => h
  | _, _, _, _, .cons p t, h => .cons p (doors_app t h)
theorem doors_rep {H : Hp} {t : Addr} {d : Door} (h : H t = some (.tup (doorV d))) : ∀ n, DoorsAt H (List.replicate n (.ref t)) (List.replicate n d)
  | 0 => .nil
  | n + 1 => .cons ⟨t, rfl, h⟩ (doors_rep h n)
theorem sum_take_le : ∀ (l : List Nat) (i : Nat), (l.take i).sum ≤ l.sum
  | [], _ => by simp
  | a :: l, 0 => by simp
  | a :: l, i + 1 => by
    have := sum_take_le l i
    rw [List.take_succ_cons, List.sum_cons, List.sum_cons]
    omega
theorem perm_erase {α : Type} : ∀ {l : List α} {m : Nat} {d : α}, l[m]? = some d → l.Perm (d :: l.eraseIdx m)
  | [], _, _, h => by simp at h
  | a :: l, 0, d, h => by
    obtain rfl : a = d := by simpa using h
    exact .refl _
  | a :: l, m + 1, d, h => by
    have ih := perm_erase (l := l) (m := m) (d := d) (by simpa using h)
    exact (ih.cons a).trans (List.Perm.swap _ _ _)
def sp_order : Sp := fun vs H Q _ => ∃ (s c f : Addr) (B : Hp) (Rs : List Hp) (dk : List (Door × List OL)), vs = [.ref s, .ref f] ∧ Wld s c B Rs H ∧ DeedsAt B f dk ∧ many dk ≤ 60 ∧
  ∀ o xs ord B' H', Ex B B' → Wld s c B' (Rs.map noTup) H' → B' o = some (.lst xs) → DoorsAt B' xs ord → (∀ d, ord.count d = (gotG dk d).length) → ord.length ≤ 60 → Q (.ref o) H'
section
variable {P : Program} {w : World} {K : PySem.W.Frag} {mg : Str → Option Value} {base : Heap}
theorem ok_order (T : Tx K mg) : FnOk P w K mg base CX0 5 T.a_l_order T.d_l_order ["_law_state_here", "_law_deeds"] sp_order := by
  have G_l_draw := ok_draw (P := P) (w := w) (base := base) T
  refine T.F_l_order.ok sc_l_order (fun vs H Q E h => ?_) (fun cdv A outer s H vs Q E hr h => ?_)
  · obtain ⟨_, _, _, _, _, _, rfl, _⟩ := h
    rfl
  · obtain ⟨s, c, f, B, Rs, dk, rfl, W0, dd, mn, q⟩ := h
    refine ⟨_, (pss_cons (ps_par (i := 2) (j := 3) rfl sc_l_order.nd rfl rfl (by decide) rfl rfl (pa_cons (pe_lst pa_nil) (pa_cons (pe_lst pa_nil) pa_nil)) (by rfl))
  (pss_cons (ps_for PassesOwn.never rfl (iListK (K := K) rfl (pe_callB (sortedDTK rfl) (by rfl) T.z_sorted (by decide +kernel) (pa_cons (pv 1) pa_nil))) (pg_name (i := 4) sc_l_order.nd rfl (Or.inl rfl))
   (pss_one (ps_set (i := 2) sc_l_order.nd rfl (Or.inl rfl) (pe_op op_cat (pv 2) (pe_op op_rep (pe_lst (pa_cons (pv 4) pa_nil)) (pe_callB (lenK (K := K) rfl) (by rfl) T.z_len (by decide +kernel) (pa_cons (pe_dget (Nat.lt_of_le_of_lt (Nat.add_le_add_left (by decide) _) hr.units) (pv 1) (pv 4) (fun _ _ => rfl)) pa_nil)))))))
  (pss_cons (ps_while PassesOwn.never (pt_cmpR (op_neK (K := K) rfl hr.units) (pv 2) (pe_lst pa_nil) (nomark _)) (pss_one (ps_expr (pe_bm PySem.F.plainAttrs_list PySem.F.slot_list_append PySem.F.type_list_append mt_append (pv 3) (pa_cons (pe_bm PySem.F.plainAttrs_list PySem.F.slot_list_pop PySem.F.type_list_pop mt_popAt (pv 2) (pa_cons (pe_call G_l_draw (hr.mono (by decide)) (by rfl) T.g_l_draw T.F_l_draw.kp T.b_l_draw .nil pass0 (pa_cons (pv 0) (pa_cons (pe_callB (lenK (K := K) rfl) (by rfl) T.z_len (by decide +kernel) (pa_cons (pv 2) pa_nil)) pa_nil))) pa_nil)) pa_nil)))))
  (pss_one (ps_ret (pv 3)))))), ?_⟩
    refine ⟨Nat.zero_le _, fun l hl => ⟨Nat.zero_le _, fun o ho => ⟨_, _, rfl, ?_⟩⟩⟩
    have W1 : Wld s c B (one o (.lst []) :: one l (.lst []) :: Rs) (upd (upd H l (.lst [])) o (.lst [])) := (W0.one (o := .lst []) hl).one (o := .lst []) ho
    generalize upd (upd H l (.lst [])) o (.lst []) = H1 at W1 ⊢
    show tSeq _ _ _ _ _
    obtain ⟨rs, b1, b2, b3, b4⟩ := dd.bk.ex
    have kb := W1.w.ex _ _ b1
    refine ⟨_, rfl, ?_⟩
    unfold tNil
    show rSortedDT [.ref f] H1 _
    refine sort_doorsD (.inl kb) (by rw [List.length_map]; exact b3) dd.bk.nd fun z ys ds pm so hys hz => ?_
    have WT := W1.noTup.all
    have W2 := WT.newK (o := .lst ys) hz
    have eT := W1.noTup.knows
    have hysT : DoorsAt _ ys ds := hys.keep fun a zs h => W1.tupAt h
    have e2 := ex_know (o := .lst ys) (WT.none hz)
    have kz : (upd (allBut s c ((one o (.lst []) :: one l (.lst []) :: Rs).map noTup) H1) z (.lst ys)) z = some (.lst ys) := upd_same
    have hys2 := hysT.keep fun a zs h => e2 a _ h
    have eB := eT.trans e2
    have ro : noTup (one o (.lst [])) = one o (.lst []) := by
      funext a
      unfold noTup one
      by_cases z : a = o
      · rw [z, upd_same]
      · rw [upd_ne z]
    have rl : noTup (one l (.lst [])) = one l (.lst []) := by
      funext a
      unfold noTup one
      by_cases z : a = l
      · rw [z, upd_same]
      · rw [upd_ne z]
    rw [List.map_cons, List.map_cons, ro, rl] at W2 e2 kz hys2 eB
    generalize upd (allBut s c (one o (.lst []) :: one l (.lst []) :: Rs.map noTup) H1) z (.lst ys) = B2 at W2 kz hys2 eB
    generalize Rs.map noTup = Rt at W2 q
    generalize upd H1 z (.lst ys) = H2 at W2 ⊢
    have dd2 := dd.ext eB
    have nds : ds.Nodup := so.imp fun h e => by subst e; exact dLt_irr h
    clear hys hysT WT W1 kb e2 eT hz W0
    refine ⟨z, rfl, ⟨_, SqL.of (W2.w.ex _ _ kz)⟩, for_it (walk_list (xs := ys)) (fun i σ H' => ∃ (l : Addr) (zs : List V) (y4 : Option V), σ = [some (.ref s), some (.ref f), some (.ref l), some (.ref o), y4] ∧ Wld s c B2 (one o (.lst []) :: one l (.lst zs) :: Rt) H' ∧ DoorsAt B2 zs (spread dk (ds.take i)))
      ⟨l, [], _, rfl, W2, .nil⟩ (fun i σ H' _ ⟨_, _, _, _, W', _⟩ => SqL.of (W'.w.ex _ _ kz)) ?_ ?_⟩
    · rintro i x σ Ha Ha' hi ⟨l, zs, y4, rfl, W', hzs⟩ ⟨rfl, hx⟩
      obtain ⟨d, hd, a, rfl, ha⟩ := paired_at hys2 hx
      have dm : d ∈ dk.map (·.1) := pm.mem_iff.mp (List.mem_of_getElem? hd)
      obtain ⟨j, hj⟩ := gotG_in dm
      obtain ⟨kvs, r0, xs, k1, k2, k3, k4⟩ := dd2.bk.row hj
      have eB' := W'.w.ex
      have gl := gotG_le (kv := dk) (d := d)
      have lx := Paired.length k4
      have lz := Paired.length hzs
      have hl' := W'.ex (one l (.lst zs)) (by simp) _ _ one_at
      refine ⟨_, rfl, _, rfl, by show 1 ≤ sizeLine; decide, fun g hg => ?_⟩
      have eg := Ex.new (o := .lst [.ref a]) hg
      refine ⟨_, rfl, _, rfl, f, .ref r0, rfl, dget_door (eg _ _ (eB' _ _ k1)) (eg _ _ (eB' _ _ ha)) k2, r0, xs, rfl, .inl (SqL.of (eg _ _ (eB' _ _ k3))), g, xs.length, [.ref a], rfl, rfl, upd_same, by omega, by omega, ?_, fun v hv => ?_⟩
      · rw [Int.toNat_natCast, List.length_singleton]
        exact Nat.le_of_lt (len_lt (by omega))
      have rp : (List.replicate ((xs.length : Int)).toNat [V.ref a]).flatten = List.replicate (gotG dk d).length (V.ref a) := by
        rw [Int.toNat_natCast, lx]
        clear gl lx k4 hj
        induction (gotG dk d).length with
        | zero => rfl
        | succ n ih => rw [List.replicate_succ, List.flatten_cons, ih]; rfl
      rw [rp]
      have ev := Ex.new (o := .lst (List.replicate (gotG dk d).length (V.ref a))) hv
      have hsp : (spread dk (ds.take i)).length ≤ 60 := by
        rw [spread_len]
        refine Nat.le_trans ?_ mn
        rw [← sum_bookG nds dd2.bk.nd fun e he => pm.mem_iff.mpr (List.mem_map.mpr ⟨e, he, rfl⟩)]
        rw [List.map_take]
        exact sum_take_le _ _
      refine ⟨l, v, zs, _, rfl, rfl, ev _ _ (eg _ _ hl'), upd_same, Nat.le_of_lt (len_lt (by rw [List.length_replicate]; omega)), fun p hp => ?_⟩
      have W4 := ((W'.ext (eg.trans ev)).one (o := .lst (zs ++ List.replicate (gotG dk d).length (V.ref a))) hp).perm (List.perm_append_comm (l₁ := [_, one o (.lst [])]) (l₂ := [one l (.lst zs)]) |>.append_right Rt)
      refine ⟨p, _, _, rfl, W4.drop.swap, ?_⟩
      rw [take_snoc hd]
      unfold spread
      rw [List.flatMap_append]
      refine doors_app hzs ?_
      rw [List.flatMap_cons, List.flatMap_nil, List.append_nil]
      exact doors_rep ha _
    · rintro σ H3 ⟨l, zs, y4, rfl, W3, hzs⟩
      rw [List.take_of_length_le (by rw [Paired.length hys2]; exact Nat.le_refl _)] at hzs
      have cnt : ∀ d, (spread dk ds).count d + ([] : List Door).count d = (gotG dk d).length := fun d => by
        rw [spread_count nds]
        by_cases m : d ∈ ds
        · rw [if_pos m]; rfl
        · rw [if_neg m, gotG_out fun q => m (pm.mem_iff.mpr q)]; rfl
      have len : (spread dk ds).length + ([] : List Door).length ≤ 60 := by
        rw [spread_len, sum_bookG nds dd2.bk.nd fun e he => pm.mem_iff.mpr (List.mem_map.mpr ⟨e, he, rfl⟩)]
        exact mn
      show tSeq _ _ _ _ _
      refine while_by (fun σ H' => ∃ (y4 : Option V) (ys zs : List V) (a b : List Door), σ = [some (.ref s), some (.ref f), some (.ref l), some (.ref o), y4] ∧ Wld s c B2 (one o (.lst zs) :: one l (.lst ys) :: Rt) H' ∧ DoorsAt B2 ys a ∧ DoorsAt B2 zs b ∧ (∀ d, a.count d + b.count d = (gotG dk d).length) ∧ a.length + b.length ≤ 60)
        (fun _ H' => match H' l with | some (.lst ys) => ys.length | _ => 0)
        ⟨_, _, _, _, _, rfl, W3, hzs, .nil, cnt, len⟩ ?_ (fun σ H Q Q' f h => by
            obtain ⟨v, i1, i2, i3⟩ := h
            exact ⟨v, i1, i2, fun g hg => by
              obtain ⟨d, e, j1, j2, j3, j4, c, j5, j6⟩ := i3 g hg
              exact ⟨d, e, j1, j2, j3, j4, c, j5, f _ _ j6⟩⟩)
      clear cnt len W3 hzs
      rintro σ Hc ⟨y4, ys', zs', a, b, rfl, W', ha, hb, cnt, len⟩
      have hl0 := W'.ex (one l (.lst ys')) (by simp) _ _ one_at
      have ho0 := W'.ex (one o (.lst zs')) (by simp) _ _ one_at
      refine ⟨_, rfl, Nat.zero_le _, fun g hg => ?_⟩
      have eg := Ex.new (o := .lst []) hg
      have W4 := W'.ext eg
      refine ⟨.list (a.map doorD), .list [], Dq.dp (.lst (eg _ _ hl0) (dq_doors (ha.keep fun a zs h => W4.w.ex _ _ h))), Dq.dp (.lst upd_same .nil), shaped_doors _, rfl, _, rfl, ?_⟩
      rw [eqv_doors]
      have lya := Paired.length ha
      have lzb := Paired.length hb
      refine ite2 (fun cw => ?_) (fun cw => ?_)
      rotate_left
      · obtain rfl : a = [] := by simpa using cw
        refine ⟨_, rfl, ?_⟩
        have kn := (W4.swap.drop.drop).knows
        exact q o zs' b _ _ (eB.trans kn) (W4.swap.drop.drop).all (W4.swap.drop.yield one_at) (hb.keep fun a zs h => kn _ _ h) (fun d => by have := cnt d; simpa using this) (by simpa using len)
      have apos : 0 < a.length := List.length_pos_iff.mpr (by simpa using cw)
      have hl4 := eg _ _ hl0
      have ho4 := eg _ _ ho0
      rw [hl0]
      clear hl0 ho0 W' eg hg
      generalize upd Hc g (.lst []) = H5 at W4 hl4 ho4 ⊢
      refine ⟨_, rfl, .inl ⟨rfl, _, SqL.of ho4⟩, _, rfl, .inl ⟨rfl, _, SqL.of hl4⟩, _, rfl, _, rfl, l, ys', rfl, .inl (SqL.of hl4), s, c, _, rfl, W4.st, by omega, by omega, fun m H6 m0 m1 st6 off6 => ?_⟩
      have W6 := W4.drawn st6 off6
      obtain ⟨m, rfl⟩ : ∃ k : Nat, m = (k : Int) := ⟨m.toNat, by omega⟩
      have hm : m < a.length := by omega
      obtain ⟨d, hd⟩ : ∃ d, a[m]? = some d := ⟨_, List.getElem?_eq_getElem hm⟩
      obtain ⟨y, hy, t, rfl, ht⟩ := paired_at0 ha hd
      have hl6 := W6.ex (one l (.lst ys')) (by simp) _ _ one_at
      refine ⟨l, ys', m, m, .ref t, rfl, rfl, hl6, by omega, by omega, (ixN_seq (Evl.ixN_nat (by omega))).1, hy, ?_⟩
      have W7 := W6.swap.chg (Chg.put (o := .lst (ys'.eraseIdx m)) (W6.ex (one l (.lst ys')) (by simp)) one_at)
      rw [one_upd] at W7
      have ho7 := W7.ex (one o (.lst zs')) (by simp) _ _ one_at
      refine ⟨o, zs', .ref t, rfl, rfl, ho7, len_lt (by omega), ?_⟩
      have W8 := W7.swap.chg (Chg.put (o := .lst (zs' ++ [.ref t])) (W7.ex (one o (.lst zs')) (by simp)) one_at)
      rw [one_upd] at W8
      have hl8 := W8.ex (one l (.lst (ys'.eraseIdx m))) (by simp) _ _ one_at
      refine ⟨⟨_, _, _, a.eraseIdx m, b ++ [d], rfl, W8, doors_erase ha, DoorsAt.snoc ht hb, fun d' => ?_, ?_⟩, ?_⟩
      · have pe : a.Perm (d :: a.eraseIdx m) := by
          exact perm_erase hd
        have := cnt d'
        rw [pe.count_eq] at this
        rw [List.count_append, ← this]
        simp only [List.count_cons, List.count_nil]
        omega
      · have := List.length_eraseIdx_of_lt hm
        rw [List.length_append, List.length_singleton]
        omega
      · rw [hl8]
        have := List.length_eraseIdx_of_lt (l := ys') (i := m) (by omega)
        show (ys'.eraseIdx m).length < ys'.length
        omega
end
end K19

set_option maxHeartbeats 1000000
namespace K19
open PySem PySem.Spec PyProof.Rows L2 Evl MyG
/-- told so far -/
structure ToldSo (B N : Hp) (t : Addr) (dk : List (Door × List OL)) (g : Door → Nat) (kv : List (Door × List Lt)) : Prop where
  bk : BkG (TupE B) N t kv
  got : ∀ d, gotG kv d = toldL (gotG dk d) (g d)
  ne : ∀ d ∈ kv.map (·.1), gotG kv d ≠ []
theorem TupE.ext {B B' : Hp} (e : Ex B B') {x : V} {l : Lt} (h : TupE B x l) : TupE B' x l := by
  obtain ⟨a, h1, h2⟩ := h
  exact ⟨a, h1, e _ _ h2⟩
theorem ToldSo.ext {B B' N : Hp} {t : Addr} {dk : List (Door × List OL)} {g : Door → Nat} {kv : List (Door × List Lt)} (e : Ex B B') (h : ToldSo B N t dk g kv) : ToldSo B' N t dk g kv := ⟨h.bk.ext fun _ _ z => z.ext e, h.got, h.ne⟩
theorem ToldSo.sub {B N : Hp} {t : Addr} {dk : List (Door × List OL)} {g : Door → Nat} {kv : List (Door × List Lt)} (h : ToldSo B N t dk g kv) : ∀ d ∈ kv.map (·.1), d ∈ dk.map (·.1) := fun d hd => by
  have := h.ne d hd
  rw [h.got d] at this
  by_cases m : d ∈ dk.map (·.1)
  · exact m
  · rw [gotG_out m, told_nil] at this
    exact absurd rfl this
theorem ToldSo.few {B N : Hp} {t : Addr} {dk : List (Door × List OL)} {g : Door → Nat} {kv : List (Door × List Lt)} {ds : List Door} (h : ToldSo B N t dk g kv) (sub : ∀ e ∈ dk, e.1 ∈ ds) : kv.length ≤ ds.length := by
  have := len_subD h.bk.nd (fun d hd => by
    obtain ⟨e, he, rfl⟩ := List.mem_map.mp (h.sub d hd)
    exact sub e he) (ys := ds)
  rw [List.length_map] at this
  exact this
theorem other_back {r : Row} {h0 : Int} (ne : r.1 ≠ r.2.1) (hor : h0 = r.1 ∨ h0 = r.2.1) : (if other r h0 = r.1 then r.2.1 else r.1) = h0 ∧ (other r h0 = r.1 ∨ other r h0 = r.2.1) := by
  unfold other
  rcases hor with rfl | rfl
  · rw [if_pos rfl, if_neg (Ne.symm ne)]
    exact ⟨rfl, .inr rfl⟩
  · rw [if_neg ne, if_pos rfl]
    exact ⟨rfl, .inl rfl⟩
def sp_done (Nc C S A : Addr) : Sp := fun vs H Q _ => ∃ (s c p L f o pl tl n : Addr) (B M N1 N2 : Hp) (Rs : List Hp) (ps qs : List Int) (rs : List Row) (ts xs : List V) (dk : List (Door × List OL)) (g : Door → Nat) (kv : List (Door × List Lt)) (ord : List Door) (m : Nat),
  vs = [.ref p, .ref L, .ref f, .ref o, .ref pl, .ref tl] ∧ Wld s c B (M :: N1 :: N2 :: Rs) H ∧ NetAt Nc B n ps qs rs ∧ PostAt C S A B M p n (doorsFrom 0 rs) (rowsOf (doorsFrom 0 rs) dk g) ∧ IntD N1 pl (fun d => (g d : Int)) m ∧ m ≤ 1000 ∧
  ToldSo B N2 tl dk g kv ∧ B L = some (.lst ts) ∧ RowsAt B ts rs ∧ rs.length ≤ 12 ∧ (∀ r ∈ rs, r.1 ≠ r.2.1) ∧ (∀ r ∈ rs, (0 ≤ r.1 ∧ r.1 < 1000) ∧ 0 ≤ r.2.1 ∧ r.2.1 < 1000) ∧ KeysD N1 pl ∧ DeedsAt B f dk ∧ (∀ e ∈ dk, e.1 ∈ doorsFrom 0 rs) ∧ many dk ≤ 60 ∧ B o = some (.lst xs) ∧ DoorsAt B xs ord ∧ ord.length ≤ 60 ∧
  (∀ d, g d + ord.count d ≤ (gotG dk d).length) ∧
  ∀ B' M' N1' N2' kv' H', Ex B B' → Wld s c B' (M' :: N1' :: N2' :: Rs) H' → PostAt C S A B' M' p n (doorsFrom 0 rs) (rowsOf (doorsFrom 0 rs) dk fun d => g d + ord.count d) → IntD N1' pl (fun d => ((g d + ord.count d : Nat) : Int)) (m + ord.length) → KeysD N1' pl →
    ToldSo B' N2' tl dk (fun d => g d + ord.count d) kv' → Q .non H'
section
variable {P : Program} {w : World} {K : PySem.W.Frag} {mg : Str → Option Value} {base : Heap}
theorem ok_done (T : Tx K mg) : FnOk P w K mg base CX0 6 T.a_l_done T.d_l_done ["_law_post", "_law_links", "_law_deeds", "_law_order_here", "_law_places", "_law_told"] (sp_done T.c_Net T.c_Post T.c_Say T.c_Agree) := by
  have G_l_made := ok_made (P := P) (w := w) (base := base) T
  have G_l_beyond := ok_lbeyond (P := P) (w := w) (base := base) T
  have G_Post_take := ok_ptake (P := P) (w := w) (base := base) T
  have G_Post_send := ok_psend (P := P) (w := w) (base := base) T
  have G_Say_told := ok_toldS (P := P) (w := w) (base := base) T
  have G_Agree_told := ok_toldA (P := P) (w := w) (base := base) T
  refine T.F_l_done.ok sc_l_done (fun vs H Q E h => ?_) (fun cdv A outer s H vs Q E hr h => ?_)
  · obtain ⟨_, _, _, _, _, _, _, _, _, _, _, _, _, _, _, _, _, _, _, _, _, _, _, _, rfl, _⟩ := h
    rfl
  · obtain ⟨s, c, p, L, f, o, pl, tl, n, B, M, N1, N2, Rs, ps, qs, rs, ts, xs, dk, g, kv, ord, m, rfl, W, net, po, int, m1, told, hL, hts, r12, hne, bd, keys, dd, sub, mn, ho, hxs, ol, cnt, q⟩ := h
    refine ⟨_, (pss_one (ps_for PassesOwn.never rfl (iListK (K := K) rfl (pv 3)) (pg_name (i := 6) sc_l_done.nd rfl (Or.inl rfl))
   (pss_cons (ps_set (i := 7) sc_l_done.nd rfl (Or.inl rfl) (pe_ix (ix_listK (K := K) rfl) (pe_dget (Nat.lt_of_le_of_lt (Nat.add_le_add_left (by decide) _) hr.units) (pv 2) (pv 6) (fun _ _ => rfl)) (pe_dget2 (hu_of hr) (pv 4) (pv 6) pe_int ⟨rfl, rfl, rfl, rfl⟩) (fun _ _ => rfl)))
  (pss_cons (ps_dput (hu_of hr) (pv 4) (pv 6) (pe_op op_add (pe_dget2 (hu_of hr) (pv 4) (pv 6) pe_int ⟨rfl, rfl, rfl, rfl⟩) pe_int) rfl)
  (pss_one (ps_if (pt_cmpR op_isN (pv 7) pe_non (nomark _)) (pss_one (ps_dput (hu_of hr) (pv 5) (pv 6) (pe_op op_cat (pe_dget2 (hu_of hr) (pv 5) (pv 6) (pe_lst pa_nil) ⟨rfl, rfl, rfl, rfl⟩) (pe_lst (pa_cons (pe_either (pe_meth0 (pe_meth (pv 0) T.cl_Post T.me_Post_take G_Post_take (hr.mono (by decide)) T.b_Post_take .nil pass0 (pa_cons (pe_ix (ix_tupK (K := K) rfl) (pv 6) pe_int (fun _ _ => rfl)) (pa_cons (pe_ix (ix_tupK (K := K) rfl) (pv 6) pe_int (fun _ _ => rfl)) pa_nil))) T.cl_Say T.me_Say_told G_Say_told (hr.mono (by decide)) T.b_Say_told .nil pass0) (pe_meth0 (pe_meth (pv 0) T.cl_Post T.me_Post_take G_Post_take (hr.mono (by decide)) T.b_Post_take .nil pass0 (pa_cons (pe_ix (ix_tupK (K := K) rfl) (pv 6) pe_int (fun _ _ => rfl)) (pa_cons (pe_ix (ix_tupK (K := K) rfl) (pv 6) pe_int (fun _ _ => rfl)) pa_nil))) T.cl_Agree T.me_Agree_told G_Agree_told (hr.mono (by decide)) T.b_Agree_told .nil pass0)) pa_nil))) rfl)) (pss_one (ps_expr (pe_meth (pv 0) T.cl_Post T.me_Post_send G_Post_send (hr.mono (by decide)) T.b_Post_send .nil pass0 (pa_cons (pe_ix (ix_tupK (K := K) rfl) (pv 6) pe_int (fun _ _ => rfl)) (pa_cons (pe_call G_l_beyond (hr.mono (by decide)) (by rfl) T.g_l_beyond T.F_l_beyond.kp T.b_l_beyond .nil pass0 (pa_cons (pv 1) (pa_cons (pe_ix (ix_tupK (K := K) rfl) (pv 6) pe_int (fun _ _ => rfl)) (pa_cons (pe_ix (ix_tupK (K := K) rfl) (pv 6) pe_int (fun _ _ => rfl)) pa_nil)))) (pa_cons (pe_call G_l_made (hr.mono (by decide)) (by rfl) T.g_l_made T.F_l_made.kp T.b_l_made .nil pass0 (pa_cons (pv 7) pa_nil)) pa_nil)))))))))))), ?_⟩
    have lxs := Paired.length hxs
    refine ⟨_, rfl, o, rfl, ⟨_, SqL.of (W.w.ex _ _ ho)⟩, for_it (walk_list (xs := xs)) (fun i σ H' => ∃ (y6 y7 : Option V) (B' M' N1' N2' : Hp) (kv' : List (Door × List Lt)), σ = [some (.ref p), some (.ref L), some (.ref f), some (.ref o), some (.ref pl), some (.ref tl), y6, y7] ∧
      Ex B B' ∧ Wld s c B' (M' :: N1' :: N2' :: Rs) H' ∧ PostAt T.c_Post T.c_Say T.c_Agree B' M' p n (doorsFrom 0 rs) (rowsOf (doorsFrom 0 rs) dk fun d => g d + (ord.take i).count d) ∧ IntD N1' pl (fun d => ((g d + (ord.take i).count d : Nat) : Int)) (m + i) ∧ KeysD N1' pl ∧ ToldSo B' N2' tl dk (fun d => g d + (ord.take i).count d) kv')
      ⟨_, _, B, M, N1, N2, kv, rfl, Ex.refl _, W, po, int, keys, told⟩ (fun i σ H' _ ⟨_, _, _, _, _, _, _, _, e', W', _⟩ => SqL.of (W'.w.ex _ _ (e' _ _ ho))) ?_ ?_⟩
    · rintro i x σ Ha Ha' hi ⟨y6, y7, B', M', N1', N2', kv', rfl, eB, W', po', int', keys', told'⟩ ⟨rfl, hx⟩
      obtain ⟨d, hd, a, rfl, ha⟩ := paired_at hxs hx
      have cd : (ord.take (i + 1)).count d = (ord.take i).count d + 1 := by
        rw [take_snoc hd, List.count_append, List.count_singleton_self]
      have cn : ∀ d', d' ≠ d → (ord.take (i + 1)).count d' = (ord.take i).count d' := fun d' ne => by
        rw [take_snoc hd, List.count_append, List.count_singleton]
        have : (d == d') = false := by simpa using fun z => ne z.symm
        rw [this]
        rfl
      have nlt : g d + (ord.take i).count d < (gotG dk d).length := by
        have h1 := cnt d
        have h2 := (List.take_sublist (i + 1) ord).count_le d
        omega
      generalize hn : g d + (ord.take i).count d = nn at nlt
      have mem : d ∈ dk.map (·.1) := by
        by_cases z : d ∈ dk.map (·.1)
        · exact z
        · rw [gotG_out z] at nlt
          exact absurd nlt (by simp)
      obtain ⟨j, hj⟩ := gotG_in mem
      have dd' := dd.ext eB
      obtain ⟨kvs, r0, xl, k1, k2, k3, k4⟩ := dd'.bk.row hj
      obtain ⟨od, hod⟩ : ∃ od, (gotG dk d)[nn]? = some od := ⟨_, List.getElem?_eq_getElem nlt⟩
      obtain ⟨v, hv, hov⟩ := paired_at0 k4 hod
      obtain ⟨kp, p1, p2, int2⟩ := int'.put d ((nn + 1 : Nat) : Int)
      have p3 : (valV kp (keyD d)).getD (.int 0) = .int (nn : Int) := by
        obtain ⟨kp', m1, m2, m3⟩ := id int'
        obtain rfl : kp = _ := HO.dT.inj (Option.some.inj (p1.symm.trans m1))
        rw [m3 d]
        dsimp only
        rw [hn]
      have hdm : d ∈ doorsFrom 0 rs := by
        obtain ⟨e, he, rfl⟩ := List.mem_map.mp mem
        exact sub e he
      have eH := W'.w.ex
      have eN1 := W'.ex N1' (by simp)
      have haH := eH _ _ (eB _ _ ha)
      refine ⟨_, rfl, _, rfl, f, .ref r0, rfl, dget_door (eH _ _ k1) haH k2, _, rfl, pl, rfl, .inr ⟨_, .inl (eN1 _ _ p1)⟩, _, rfl, valV kp (keyD d), DGet.t (k := keyD d) (eN1 _ _ p1) haH, ?_⟩
      dsimp only
      rw [p3]
      refine ⟨r0, xl, (nn : Int), v, rfl, rfl, SqL.of (eH _ _ k3), atI_nat hv, ?_⟩
      show tSeq _ _ _ _ _
      refine ⟨_, rfl, pl, rfl, .inr ⟨_, .inl (eN1 _ _ p1)⟩, _, rfl, valV kp (keyD d), DGet.t (k := keyD d) (eN1 _ _ p1) haH, ?_⟩
      dsimp only
      rw [p3]
      refine ⟨_, _, rfl, rfl, _, rfl, _, rfl, pl, _, rfl, DPut.t (k := keyD d) (eN1 _ _ p1) haH (len_lt (by omega)), ?_⟩
      have e1n : ((nn : Int) + 1) = ((nn + 1 : Nat) : Int) := by omega
      dsimp only
      rw [e1n]
      have W2 := (W'.swap.chg (Chg.put (o := .dT (putK kp (keyD d) (.int ((nn + 1 : Nat) : Int)))) eN1 p1)).swap
      have int3 : IntD (upd N1' pl (.dT (putK kp (keyD d) (.int ((nn + 1 : Nat) : Int))))) pl (fun d => ((g d + (ord.take (i + 1)).count d : Nat) : Int)) (m + (i + 1)) := by
        have e : (fun y => if y = d then ((nn + 1 : Nat) : Int) else ((g y + (ord.take i).count y : Nat) : Int)) = fun y => ((g y + (ord.take (i + 1)).count y : Nat) : Int) := by
          funext y
          by_cases z : y = d
          · subst z
            rw [if_pos rfl, cd]
            omega
          · rw [if_neg z, cn y z]
        rw [← e]
        exact int2
      have keys3 : KeysD (upd N1' pl (.dT (putK kp (keyD d) (.int ((nn + 1 : Nat) : Int))))) pl := keys'.put p1 (door_key hdm r12 bd)
      have haH2 := W2.w.ex _ _ (eB _ _ ha)
      clear int2 W' eN1 haH eH
      generalize upd N1' pl (.dT (putK kp (keyD d) (.int ((nn + 1 : Nat) : Int)))) = N1c at W2 int3 keys3
      generalize upd Ha' pl (.dT (putK kp (keyD d) (.int ((nn + 1 : Nat) : Int)))) = H2 at W2 haH2 ⊢
      obtain ⟨i0, hdi⟩ := List.mem_iff_getElem?.mp hdm
      obtain ⟨k, r, hk, hdk, hor⟩ := door_of hdi
      have hne' := hne r (List.mem_of_getElem? hk)
      obtain ⟨d1, h0⟩ := d
      obtain rfl : d1 = (k : Int) := by simpa using hdk
      have hrow : (rowsOf (doorsFrom 0 rs) dk fun d => g d + (ord.take i).count d)[i0]? = some (rowL (gotG dk ((k : Int), h0)) nn) := by
        unfold rowsOf
        rw [List.getElem?_map, hdi, Option.map_some]
        dsimp only
        rw [hn]
      have rset : (rowsOf (doorsFrom 0 rs) dk fun d => g d + (ord.take i).count d).set i0 (rowL (gotG dk ((k : Int), h0)) (nn + 1)) = rowsOf (doorsFrom 0 rs) dk fun d => g d + (ord.take (i + 1)).count d := by
        rw [rows_set po'.nd hdi]
        unfold rowsOf
        refine List.map_congr_left fun y _ => ?_
        dsimp only
        by_cases z : y = ((k : Int), h0)
        · rw [if_pos z, z, cd, ← hn]
          rfl
        · rw [if_neg z, cn y z]
      have gd := dd.goodG ((k : Int), h0)
      have rle := row_le (gotG dk ((k : Int), h0)) nn
      have gle := gotG_le (kv := dk) (d := ((k : Int), h0))
      obtain ⟨dxp, ep, rxp, hp1, _⟩ := id po'.ex
      show tIfS _ _ _ _ _ _
      cases od with
      | none =>
        obtain rfl : v = .non := hov
        obtain ⟨t, row, e1, e2, e3q⟩ := gd.taken hod
        refine ⟨_, rfl, rfl, _, rfl, iteT ?_⟩
        obtain ⟨rbx, hbx, _⟩ := id told'.bk.ex
        have few := told'.few sub
        rw [doors_len] at few
        have eT := W2.ex N2' (by simp)
        refine ⟨_, rfl, tl, rfl, .inr ⟨_, .inl (eT _ _ hbx)⟩, _, rfl, Nat.zero_le _, fun fz hfz => ?_⟩
        obtain ⟨kvt, u, xt, q1, q2, q3, q4⟩ := bookG_get2 (f := fz) (d := ((k : Int), h0)) told'.bk
        have lxt := Paired.length q4
        have tle := told_le (gotG dk ((k : Int), h0)) nn
        have gk := told'.got ((k : Int), h0)
        rw [hn] at gk
        rw [gk] at lxt
        have W3 := W2.newK (o := .lst []) hfz
        have e3 : Ex B' (upd B' fz (.lst [])) := ex_know (W2.none hfz)
        have k3' : (upd B' fz (.lst [])) fz = some (.lst []) := upd_same
        generalize upd B' fz (.lst []) = B3 at W3 e3 k3'
        generalize upd H2 fz (.lst []) = H3 at W3
        have eB3 := eB.trans e3
        have ha3 := W3.w.ex _ _ (eB3 _ _ ha)
        refine ⟨valV kvt (keyD ((k : Int), h0)), DGet.t (k := keyD ((k : Int), h0)) (W3.ex N2' (by simp) _ _ q1) ha3, ?_⟩
        rw [q2]
        have po3 := po'.ext e3
        have ok3 : PostOk T.c_Net T.c_Post T.c_Say T.c_Agree B3 M' H3 p n ps qs rs (doorsFrom 0 rs) _ := ⟨W3.w.ex, W3.ex M' (by simp), net.mono eB3, po3, r12⟩
        rw [e1] at hrow
        refine ei_toldR (l := t) (fun H1 => ∃ M2, PostAt T.c_Post T.c_Say T.c_Agree B3 M2 p n (doorsFrom 0 rs) (rowsOf (doorsFrom 0 rs) dk fun d => g d + (ord.take (i + 1)).count d) ∧ Chg M' M2 H3 H1) (fun Q' q' => ?_) ?_
        · exact ⟨_, rfl, p, dxp, _, rfl, ok3.eM _ _ hp1, pf_no _ _ (by decide +kernel) (by decide +kernel), _, rfl, a, _, 0, _, rfl, rfl, SqT.of ha3, rfl, _, rfl, a, _, 1, _, rfl, rfl, SqT.of ha3, rfl, p, n, k, h0, B3, M', ps, qs, rs, _, _, r, i0, t, row, rfl, ok3, hk, hor, hdi, hrow, fun a1 M2 H9 po2 ch lt => q' a1 H9 ⟨M2, by rw [← rset, e2]; exact po2, ch⟩ (lt.ext (W3.chg ch).w.ex)⟩
        rintro u2 H4 H5 ⟨M2, po2, ch⟩ n5 e5 hu2
        have W5 := (W3.chg ch).knew e5 n5 hu2
        have e5' : Ex B3 (upd B3 u2 (.tup t.vs)) := ex_know ((W3.chg ch).none n5)
        have k5 : (upd B3 u2 (.tup t.vs)) u2 = some (.tup t.vs) := upd_same
        have eB5 := eB3.trans e5'
        have po5 := po2.ext e5'
        clear W3 ok3 ch n5 e5 hu2
        generalize upd B3 u2 (.tup t.vs) = B5 at W5 e5' k5 eB5 po5
        have bk5 := told'.bk.ext fun _ _ z => TupE.ext (e3.trans e5') z
        have hu5 : H5 u = some (.lst xt) := by
          rcases q3 with q3 | ⟨rfl, rfl⟩
          · exact W5.ex N2' (by simp) _ _ q3
          · exact W5.w.ex _ _ (e5' _ _ k3')
        have eT5 := W5.ex N2' (by simp)
        have ha5 := W5.w.ex _ _ (eB5 _ _ ha)
        refine ⟨by show 1 ≤ sizeLine; decide, fun gz hgz => ⟨u, gz, xt, [.ref u2], rfl, rfl, Ex.new hgz _ _ hu5, upd_same, Nat.le_of_lt (len_lt (by rw [List.length_singleton]; omega)), fun y hy => ?_⟩⟩
        have eg := Ex.new (o := .lst [.ref u2]) hgz
        have eTg := eT5.trans eg
        obtain ⟨kvt', p1', p2', bk6⟩ := bk5.put (d := ((k : Int), h0)) (xs := xt ++ [.ref u2]) (l := gotG kv' ((k : Int), h0) ++ [t]) eTg hy (Paired.snocG ⟨u2, rfl, k5⟩ (Paired.mapP q4 fun _ _ z => TupE.ext (e3.trans e5') z))
        obtain rfl : kvt = kvt' := HO.dT.inj (Option.some.inj (q1.symm.trans p1'))
        have c1 := (Chg.ext eT5 eg).trans (Chg.new (o := .lst (xt ++ [.ref u2])) eTg hy)
        have fb : tl ≠ y := ne_of_none (eTg _ _ p1') hy
        have nb : (upd N2' y (.lst (xt ++ [.ref u2]))) tl = some (.dT kvt) := by rw [upd_ne fb]; exact p1'
        have ha6 := Ex.new (o := .lst (xt ++ [.ref u2])) hy _ _ (eg _ _ ha5)
        refine ⟨_, rfl, _, rfl, tl, _, rfl, DPut.t (k := keyD ((k : Int), h0)) (c1.now _ _ nb) ha6 (len_lt (by omega)), ?_⟩
        have W6 := (W5.perm (List.perm_append_comm (l₁ := [M2, N1c]) (l₂ := [N2']) |>.append_right Rs)).chg (c1.trans (Chg.put (o := .dT (putK kvt (keyD ((k : Int), h0)) (.ref y))) c1.now nb))
        have W7 := W6.perm (List.perm_append_comm (l₁ := [_]) (l₂ := [M2, N1c]) |>.append_right Rs)
        refine ⟨_, _, B5, M2, N1c, _, _, rfl, eB5, W7, po5, int3, keys3, ⟨bk6, fun d' => ?_, fun d' hd' => ?_⟩⟩
        · rw [gotG_put]
          by_cases z : d' = ((k : Int), h0)
          · subst z
            rw [if_pos rfl, gk, cd, ← Nat.add_assoc, hn, e3q]
          · rw [if_neg (Ne.symm z), cn d' z]
            exact told'.got d'
        · rw [gotG_put]
          by_cases z : d' = ((k : Int), h0)
          · subst z
            rw [if_pos rfl]
            simp
          · rw [if_neg (Ne.symm z)]
            refine told'.ne d' ?_
            rcases putG_mem hd' with w | w
            · exact absurd w z
            · exact w
      | some l =>
        obtain ⟨t, rfl, ht⟩ := hov
        obtain ⟨e1, e2⟩ := gd.sent hod
        refine ⟨_, rfl, rfl, _, rfl, iteF ?_⟩
        obtain ⟨ob, or2⟩ := other_back hne' hor
        have mp := W2.ex M' (by simp)
        have hL2 := eB _ _ hL
        refine ⟨_, rfl, p, dxp, _, rfl, mp _ _ hp1, pf_no _ _ (by decide +kernel) (by decide +kernel), _, rfl, a, _, 0, _, rfl, rfl, SqT.of haH2, rfl, _, rfl, _, rfl, a, _, 0, _, rfl, rfl, SqT.of haH2, rfl, _, rfl, a, _, 1, _, rfl, rfl, SqT.of haH2, rfl, L, ts, rs, B', k, r, h0, rfl, W2.w.ex, hL2, hts.mono eB, hk, fun H3 e3 => ?_⟩
        have W3 := W2.ext e3
        refine ⟨_, rfl, t, l, rfl, W3.w.ex _ _ ht, fun aa H4 a4 e4 lt4 => ?_⟩
        obtain ⟨o4, ho4, mk4⟩ := lt4.know
        have W4 := W3.knew e4 a4 ho4
        have e4' : Ex B' (upd B' aa o4) := ex_know (W3.none a4)
        have lt4' := mk4 B'
        have eB4 := eB.trans e4'
        have po4 := po'.ext e4'
        have told4 := told'.ext e4'
        generalize upd B' aa o4 = B4 at W4 e4' lt4' eB4 po4 told4
        refine ⟨p, n, aa, k, other r h0, l, B4, M', ps, qs, rs, _, _, r, i0, _, rfl, ⟨W4.w.ex, W4.ex M' (by simp), net.mono eB4, po4, r12⟩, hk, or2, by rw [ob]; exact hdi, hrow, by omega, lt4', fun M5 H5 po5 ch5 => ?_⟩
        rw [← e1, rset] at po5
        refine ⟨_, _, B4, M5, N1c, N2', kv', rfl, eB4, W4.chg ch5, po5, int3, keys3, ⟨told4.bk, fun d' => ?_, told4.ne⟩⟩
        by_cases z : d' = ((k : Int), h0)
        · subst z
          rw [told4.got, cd]
          show toldL _ _ = toldL _ _
          rw [← Nat.add_assoc, hn, e2]
        · rw [told4.got, cn d' z]
    · rintro σ H' ⟨y6, y7, B', M', N1', N2', kv', rfl, eB, W', po', int', keys', told'⟩
      rw [List.take_of_length_le (by omega)] at po' int' told'
      rw [lxs] at int'
      exact q _ _ _ _ _ _ eB W' po' int' keys' told'
end
end K19

set_option maxHeartbeats 1000000
namespace K19
open PySem PySem.Spec PyProof.Rows L2 Evl MyG
/-! ### what is known, while a dict of it is walked -/
theorem Wld.lock {s c f : Addr} {B H : Hp} {Rs : List Hp} {u : HO} {o : HO} (W : Wld s c B Rs H) (hf : B f = some u) : Wld s c (upd B f o) Rs (upd H f o) := by
  have sf : s ≠ f := fun z => by rw [← z, W.w.ns] at hf; cases hf
  have cf : c ≠ f := fun z => by rw [← z, W.w.nc] at hf; cases hf
  have offR : ∀ R ∈ Rs, R f = Option.none := fun R hR => by
    rcases W.dj R hR f with z | z
    · rw [z] at hf; cases hf
    · exact z
  refine ⟨⟨fun a x h => ?_, ?_, ?_, ?_⟩, fun R hR a x h => ?_, W.off, fun R hR a => ?_, W.pw⟩
  · by_cases z : a = f
    · rw [z, upd_same] at h ⊢
      exact h
    · rw [upd_ne z] at h ⊢
      exact W.w.ex a x h
  · rw [upd_ne sf]; exact W.w.ns
  · rw [upd_ne cf]; exact W.w.nc
  · obtain ⟨cells, i, j, h1, h2, r⟩ := W.st.ex
    exact ⟨W.st.ne, cells, i, j, by rw [upd_ne sf]; exact h1, by rw [upd_ne cf]; exact h2, r⟩
  · rw [upd_ne fun z => by rw [z, offR R hR] at h; cases h]
    exact W.ex R hR a x h
  · by_cases z : a = f
    · rw [z]; exact .inr (offR R hR)
    · rw [upd_ne z]; exact W.dj R hR a
theorem ex_lock {B B' : Hp} {f : Addr} {o u : HO} (h : B f = some u) (e : Ex (upd B f o) B') : Ex B (upd B' f u) := fun a x ha => by
  by_cases z : a = f
  · rw [z, upd_same, ← h, ← z, ha]
  · rw [upd_ne z]
    exact e a x (by rw [upd_ne z]; exact ha)
theorem snt_take (l : List OL) {i : Nat} {o : OL} (h : l[i]? = some o) : snt (l.take (i + 1)) = snt (l.take i) ++ o.toList := by rw [take_snoc h, snt_snoc]
theorem paired_drop {α β : Type} {Pq : α → β → Prop} : ∀ (n : Nat) {xs : List α} {ys : List β}, Paired Pq xs ys → Paired Pq (xs.drop n) (ys.drop n)
  | 0, _, _, h => h
  | _ + 1, _, _, .nil => .nil
  | n + 1, _, _, .cons _ t => paired_drop n t
theorem paired_take {α β : Type} {Pq : α → β → Prop} : ∀ (n : Nat) {xs : List α} {ys : List β}, Paired Pq xs ys → Paired Pq (xs.take n) (ys.take n)
  | 0, _, _, _ => by rw [List.take_zero, List.take_zero]; exact .nil
  | _ + 1, _, _, .nil => .nil
  | n + 1, _, _, .cons a t => .cons a (paired_take n t)
theorem keys_few {kv : List (Door × List Lt)} {dk : List (Door × List OL)} (nd : (kv.map (·.1)).Nodup) (h : ∀ d ∈ kv.map (·.1), d ∈ dk.map (·.1)) : kv.length ≤ dk.length := by
  have := len_subD nd h
  rw [List.length_map, List.length_map] at this
  exact this
def sp_due : Sp := fun vs H Q _ => ∃ (s c f : Addr) (B : Hp) (dk : List (Door × List OL)), vs = [.ref f] ∧ Wd s c B H ∧ DeedsAt B f dk ∧ many dk ≤ 60 ∧ dk.length ≤ 24 ∧
  ∀ t tl l B' H' kvT kvL, Ex B B' → Wd s c B' H' → B' t = some (.tup [.ref tl, .ref l]) → BkG (TupE B') B' tl kvT → BkG (TupE B') B' l kvL → (∀ d, gotG kvT d = (snt (gotG dk d)).take (non (gotG dk d))) → (∀ d ∈ kvT.map (·.1), gotG kvT d ≠ []) →
    (∀ d, gotG kvL d = (snt (gotG dk d)).drop (non (gotG dk d))) → (∀ d ∈ kvL.map (·.1), d ∈ dk.map (·.1)) → Q (.ref t) H'
section
variable {P : Program} {w : World} {K : PySem.W.Frag} {mg : Str → Option Value} {base : Heap}
theorem ok_due (T : Tx K mg) : FnOk P w K mg base CX0 5 T.a_l_due T.d_l_due ["_law_deeds"] sp_due := by
  refine T.F_l_due.ok sc_l_due (fun vs H Q E h => ?_) (fun cdv A outer s H vs Q E hr h => ?_)
  · obtain ⟨_, _, _, _, _, rfl, _⟩ := h
    rfl
  · obtain ⟨s, c, f, B, dk, rfl, W, dd, mn, few, q⟩ := h
    refine ⟨_, (pss_cons (ps_par (i := 1) (j := 2) rfl sc_l_due.nd rfl rfl (by decide) rfl rfl (pa_cons pe_dnewT (pa_cons pe_dnewT pa_nil)) (by rfl))
  (pss_cons (ps_lock (ps_for PassesOwn.never rfl (pi_keys (pv 0)) (pg_name (i := 3) sc_l_due.nd rfl (Or.inl rfl))
   (pss_cons (ps_setLc (i := 4) (own := [("_law_deed", 6)]) (g := (gName 6)) rfl sc_l_due.nd rfl rfl (sw_true rfl rfl rfl (by decide +kernel)) (iListK (K := K) rfl (pe_dget (Nat.lt_of_le_of_lt (Nat.add_le_add_left (by decide) _) hr.units) (pv 0) (pv 3) (fun _ _ => rfl))) (blkOk_by (N := n_l_due) (sc := defScope s_l_due) (by decide +kernel)) (fun _ _ _ _ _ => (pg_name (i := 6) sc_l_due.nd rfl (Or.inl rfl))) (fun _ _ _ _ _ => (pts_one (pt_cmpR op_notN (pv 6) pe_non (nomark _)))) (fun _ _ _ _ _ => (pv 6)))
  (pss_cons (ps_set (i := 5) sc_l_due.nd rfl (Or.inl rfl) (pe_op op_sub (pe_callB (lenK (K := K) rfl) (by rfl) T.z_len (by decide +kernel) (pa_cons (pe_dget (Nat.lt_of_le_of_lt (Nat.add_le_add_left (by decide) _) hr.units) (pv 0) (pv 3) (fun _ _ => rfl)) pa_nil)) (pe_callB (lenK (K := K) rfl) (by rfl) T.z_len (by decide +kernel) (pa_cons (pv 4) pa_nil))))
  (pss_cons (ps_dput (hu_of hr) (pv 2) (pv 3) (pe_slice (sl_listK (K := K) rfl) (pv 4) (po_some (pv 5)) po_none) rfl)
  (pss_one (ps_if (pt_cmpR op_gt (pv 5) pe_int (nomark _)) (pss_one (ps_dput (hu_of hr) (pv 1) (pv 3) (pe_slice (sl_listK (K := K) rfl) (pv 4) po_none (po_some (pv 5))) rfl)) pss_nil)))))))
  (pss_one (ps_ret (pe_tup (pa_cons (pv 1) (pa_cons (pv 2) pa_nil))))))), ?_⟩
    have W0 : Wld s c B [] H := ⟨W, fun _ h => absurd h (by simp), fun _ h => absurd h (by simp), fun _ h => absurd h (by simp), .nil⟩
    refine fun tl htl l hl => ⟨_, _, rfl, ?_⟩
    have W1 : Wld s c B [one tl (.dT []), one l (.dT [])] (upd (upd H tl (.dT [])) l (.dT [])) := ((W0.one (o := .dT []) htl).one (o := .dT []) hl).swap
    generalize upd (upd H tl (.dT [])) l (.dT []) = H1 at W1 ⊢
    obtain ⟨rs, b1, b2, b3, b4⟩ := dd.bk.ex
    have gg := dd.goodG
    show tSeq _ _ _ _ _
    refine ⟨f, _, W1.w.ex _ _ b1, True.intro, fun od => ?_⟩
    have W2 := W1.lock (o := .frz od (.dT (kvsOf (dk.map (·.1)) rs))) b1
    have kf : (upd B f (.frz od (.dT (kvsOf (dk.map (·.1)) rs)))) f = some (.frz od (.dT (kvsOf (dk.map (·.1)) rs))) := upd_same
    have kr : ∀ {a : Addr} {o : HO}, B a = some o → (∀ kvs, o ≠ .dT kvs) → (upd B f (.frz od (.dT (kvsOf (dk.map (·.1)) rs)))) a = some o := fun {a o} h n => by
      rw [upd_ne fun z => by rw [z, b1] at h; exact n _ (Option.some.inj h).symm]
      exact h
    have lk : (kvsOf (dk.map (·.1)) rs).length = dk.length := by rw [kvs_len _ _ (by rw [List.length_map]; exact b3), List.length_map]
    have ekB : ∀ {B' : Hp}, Ex (upd B f (.frz od (.dT (kvsOf (dk.map (·.1)) rs)))) B' → Ex B (upd B' f (.dT (kvsOf (dk.map (·.1)) rs))) := fun e => ex_lock b1 e
    generalize upd B f (.frz od (.dT (kvsOf (dk.map (·.1)) rs))) = B2 at W2 kf kr ekB
    generalize upd H1 f (.frz od (.dT (kvsOf (dk.map (·.1)) rs))) = H2 at W2
    refine ⟨_, rfl, f, od, rfl, .inr ⟨_, W2.w.ex _ _ kf, for_it walk_keysT (fun i σ H' => ∃ (y3 y4 y5 y6 : Option V) (N1 N2 : Hp) (kvT kvL : List (Door × List Lt)), σ = [some (.ref f), some (.ref tl), some (.ref l), y3, y4, y5, y6] ∧ Wld s c B2 [N1, N2] H' ∧ BkG (TupE B2) N1 tl kvT ∧ BkG (TupE B2) N2 l kvL ∧
      (∀ d, gotG kvT d = if d ∈ (dk.map (·.1)).take i then (snt (gotG dk d)).take (non (gotG dk d)) else []) ∧ (∀ d ∈ kvT.map (·.1), gotG kvT d ≠ []) ∧ (∀ d, gotG kvL d = if d ∈ (dk.map (·.1)).take i then (snt (gotG dk d)).drop (non (gotG dk d)) else []) ∧ (∀ d ∈ kvL.map (·.1), d ∈ dk.map (·.1)))
      ⟨_, _, _, _, _, _, [], [], rfl, W2, ⟨⟨[], one_at, List.nodup_nil, rfl, .nil⟩, List.nodup_nil⟩, ⟨⟨[], one_at, List.nodup_nil, rfl, .nil⟩, List.nodup_nil⟩, fun d => by simp [gotG], fun d h => absurd h (by simp), fun d => by simp [gotG], fun d h => absurd h (by simp)⟩ (fun i σ H' _ ⟨_, _, _, _, _, _, _, _, _, W', _⟩ => W'.w.ex _ _ kf) ?_ ?_⟩⟩
    · rintro i x σ Ha Ha' hi ⟨y3, y4, y5, y6, N1, N2, kvT, kvL, rfl, W', bT, bL, gT, nT, gL, sL⟩ ⟨rfl, k, v, q0, hkv, rfl, hq0⟩
      obtain ⟨d, r, hd, hr', rfl, rfl⟩ := kvs_at hkv
      obtain ⟨e, he, xs, hxr, hxs⟩ := paired_at b4 hr'
      have ed : e.1 = d := by
        rw [List.getElem?_map, he] at hd
        exact Option.some.inj hd
      obtain ⟨d', dl⟩ := e
      obtain rfl : d' = d := ed
      have hg : gotG dk d' = dl := gotG_at dd.bk.nd he
      have hkf := W'.w.ex _ _ kf
      have hrk := W'.w.ex _ _ (kr hxr (fun _ z => by cases z))
      have gl := gotG_le (kv := dk) (d := d')
      rw [hg] at gl
      have hdm : d' ∈ dk.map (·.1) := List.mem_of_getElem? hd
      have hxs2 : Paired (OAt B2) xs dl := Paired.mapP hxs fun x o z => by
        cases o with
        | none => exact z
        | some l => obtain ⟨a, a1, a2⟩ := z; exact ⟨a, a1, kr a2 (fun _ z => by cases z)⟩
      have lx := Paired.length hxs2
      show tSeq _ _ _ _ _
      refine ⟨_, rfl, _, rfl, f, .ref r, rfl, .inr ⟨_, keyD d', q0, .inr ⟨od, hkf⟩, rfl, hq0, (valV_kvs dd.bk.nd hd hr').symm⟩, r, rfl, ⟨_, SqL.of hrk⟩, fun D hD => ?_⟩
      refine lc_it walk_list (fun j H' => ∃ ys, Ex Ha' H' ∧ H' D = some (.lst ys) ∧ Paired (TupE B2) ys (snt (dl.take j)) ∧ ys.length ≤ j) ⟨[], Ex.new hD, upd_same, .nil, Nat.zero_le _⟩ (fun j H' _ ⟨_, ex, _⟩ => SqL.of (ex _ _ hrk)) ?_ ?_
      · rintro j x Hb Hb' hj ⟨ys, ex, hDb, hys, lys⟩ ⟨rfl, hx⟩
        obtain ⟨o, ho, hox⟩ := paired_at hxs2 hx
        have hj' : j < xs.length := hj
        have st := snt_take dl ho
        cases o with
        | none =>
          obtain rfl : x = .non := hox
          refine ⟨rfl, _, rfl, rfl, _, rfl, iteF ⟨ys, ex, hDb, ?_, by omega⟩⟩
          rw [st]
          simpa using hys
        | some lt =>
          obtain ⟨t, rfl, ht⟩ := hox
          refine ⟨rfl, _, rfl, rfl, _, rfl, iteT ⟨_, rfl, ys, hDb, len_lt (by omega), ys ++ [.ref t], ex.mut hD, upd_same, ?_, by rw [List.length_append, List.length_singleton]; omega⟩⟩
          rw [st]
          exact Paired.snocG ⟨t, rfl, ht⟩ hys
      rintro Hb ⟨ys, ex, hDb, hys, lys⟩
      rw [List.take_of_length_le (by omega)] at hys
      have lsn := Paired.length hys
      have Wb := W'.ext ex
      have sle := snt_le dl
      have gd : non dl ≤ (snt dl).length := by
        have := (gg d') dl.length
        rw [hg, List.take_length] at this
        exact this
      have en : ((xs.length : Nat) : Int) - ((ys.length : Nat) : Int) = ((non dl : Nat) : Int) := by
        unfold non
        omega
      show tSeq _ _ _ _ _
      refine ⟨_, rfl, _, rfl, f, .ref r, rfl, .inr ⟨_, keyD d', q0, .inr ⟨od, ex _ _ hkf⟩, rfl, ex _ _ hq0, (valV_kvs dd.bk.nd hd hr').symm⟩, r, xs, rfl, .inl (SqL.of (ex _ _ hrk)), _, rfl, D, ys, rfl, .inl (SqL.of hDb), _, _, rfl, rfl, ?_⟩
      dsimp only
      rw [en]
      show tSeq _ _ _ _ _
      have not := not_take dd.bk.nd hd
      have dkt := take_snoc hd
      have fewL : kvL.length ≤ 24 := Nat.le_trans (keys_few bL.nd sL) few
      have fewT : kvT.length ≤ 24 := Nat.le_trans (keys_few bT.nd fun d hd => by
        have h1 := nT d hd
        rw [gT d] at h1
        by_cases z : d ∈ (dk.map (·.1)).take i
        · exact List.take_subset _ _ z
        · rw [if_neg z] at h1
          exact absurd rfl h1) few
      refine ⟨_, rfl, _, rfl, _, rfl, D, ys, rfl, SqL.of hDb, fun p hp => ?_⟩
      rw [cut_hi ys (k := non dl) (by omega)]
      have eN2 := Wb.ex N2 (by simp)
      obtain ⟨kvl, p1, p2, bL2⟩ := bL.put (d := d') (xs := ys.drop (non dl)) (l := (snt dl).drop (non dl)) eN2 hp (paired_drop _ hys)
      have c1 := Chg.new (o := .lst (ys.drop (non dl))) eN2 hp
      have fb : l ≠ p := ne_of_none (eN2 _ _ p1) hp
      have nb : (upd N2 p (.lst (ys.drop (non dl)))) l = some (.dT kvl) := by rw [upd_ne fb]; exact p1
      have hq1 := Ex.new (o := .lst (ys.drop (non dl))) hp _ _ (ex _ _ hq0)
      refine ⟨_, rfl, _, rfl, l, _, rfl, DPut.t (k := keyD d') (c1.now _ _ nb) hq1 (len_lt (by omega)), ?_⟩
      have c2 := c1.trans (Chg.put (o := .dT (putK kvl (keyD d') (.ref p))) c1.now nb)
      have Wc := (Wb.swap.chg c2).swap
      have ND : N2 D = none := fresh_back (W'.ex N2 (by simp)) hD
      have hDc := c2.frame _ _ ND hDb
      have hqc : (upd (upd Hb p (.lst (ys.drop (non dl)))) l (.dT (putK kvl (keyD d') (.ref p)))) q0 = some (.tup (doorV d')) := by
        rw [upd_ne (ne_of hq1 (c1.now _ _ nb) (by intro z; cases z))]
        exact hq1
      generalize upd (upd Hb p (.lst (ys.drop (non dl)))) l (.dT (putK kvl (keyD d') (.ref p))) = Hc at Wc hDc hqc
      generalize upd (upd N2 p (.lst (ys.drop (non dl)))) l (.dT (putK kvl (keyD d') (.ref p))) = N2c at Wc bL2
      have gL2 : ∀ d, gotG (putG kvL d' ((snt dl).drop (non dl))) d = if d ∈ (dk.map (·.1)).take (i + 1) then (snt (gotG dk d)).drop (non (gotG dk d)) else [] := fun d => by
        rw [gotG_put, dkt]
        by_cases z : d' = d
        · subst z
          rw [if_pos rfl, if_pos (by simp), hg]
        · rw [if_neg z, gL d]
          have : d ∈ (dk.map (·.1)).take i ++ [d'] ↔ d ∈ (dk.map (·.1)).take i := by
            rw [List.mem_append, List.mem_singleton]
            exact ⟨fun h => h.resolve_right fun q => z q.symm, .inl⟩
          simp only [this]
      have sL2 : ∀ d ∈ (putG kvL d' ((snt dl).drop (non dl))).map (·.1), d ∈ dk.map (·.1) := fun d h => by
        rcases putG_mem h with z | z
        · rw [z]; exact hdm
        · exact sL d z
      dsimp only
      refine ⟨_, rfl, _, _, rfl, rfl, _, rfl, ite2 (fun cz => ?_) (fun cz => ?_)⟩
      · have cz : 0 < non dl := by
          have := of_decide_eq_true cz
          omega
        refine ⟨_, rfl, _, rfl, _, rfl, D, ys, rfl, SqL.of hDc, fun p' hp' => ?_⟩
        rw [cut_lo ys (k := non dl) (by omega)]
        have eN1 := Wc.ex N1 (by simp)
        obtain ⟨kvt, p1', p2', bT2⟩ := bT.put (d := d') (xs := ys.take (non dl)) (l := (snt dl).take (non dl)) eN1 hp' (paired_take _ hys)
        have c1' := Chg.new (o := .lst (ys.take (non dl))) eN1 hp'
        have fb' : tl ≠ p' := ne_of_none (eN1 _ _ p1') hp'
        have nb' : (upd N1 p' (.lst (ys.take (non dl)))) tl = some (.dT kvt) := by rw [upd_ne fb']; exact p1'
        have hq2 := Ex.new (o := .lst (ys.take (non dl))) hp' _ _ hqc
        refine ⟨_, rfl, _, rfl, tl, _, rfl, DPut.t (k := keyD d') (c1'.now _ _ nb') hq2 (len_lt (by omega)), ?_⟩
        have Wd2 := Wc.chg (c1'.trans (Chg.put (o := .dT (putK kvt (keyD d') (.ref p'))) c1'.now nb'))
        refine ⟨_, _, _, _, _, _, _, _, rfl, Wd2, bT2, bL2, fun d => ?_, fun d hd => ?_, gL2, sL2⟩
        · rw [gotG_put, dkt]
          by_cases z : d' = d
          · subst z
            rw [if_pos rfl, if_pos (by simp), hg]
          · rw [if_neg z, gT d]
            have : d ∈ (dk.map (·.1)).take i ++ [d'] ↔ d ∈ (dk.map (·.1)).take i := by
              rw [List.mem_append, List.mem_singleton]
              exact ⟨fun h => h.resolve_right fun q => z q.symm, .inl⟩
            simp only [this]
        · rw [gotG_put]
          by_cases z : d' = d
          · rw [if_pos z]
            intro e
            have := congrArg List.length e
            rw [List.length_take] at this
            have h0 : ([] : List Lt).length = 0 := rfl
            omega
          · rw [if_neg z]
            refine nT d ?_
            rcases putG_mem hd with w | w
            · exact absurd w.symm z
            · exact w
      · have cz : non dl = 0 := by
          have := of_decide_eq_false (Bool.eq_false_iff.mpr cz)
          omega
        refine ⟨_, _, _, _, _, _, _, _, rfl, Wc, bT, bL2, fun d => ?_, nT, gL2, sL2⟩
        rw [gT d, dkt]
        by_cases z : d' = d
        · subst z
          rw [if_neg not, if_pos (by simp), hg, cz]
          rfl
        · have : d ∈ (dk.map (·.1)).take i ++ [d'] ↔ d ∈ (dk.map (·.1)).take i := by
            rw [List.mem_append, List.mem_singleton]
            exact ⟨fun h => h.resolve_right fun q => z q.symm, .inl⟩
          simp only [this]
    · rintro σ H3 ⟨y3, y4, y5, y6, N1, N2, kvT, kvL, rfl, W', bT, bL, gT, nT, gL, sL⟩
      rw [lk, show (dk.map (·.1)).take dk.length = dk.map (·.1) by rw [← List.length_map (f := fun e : Door × List OL => e.1), List.take_length]] at gT gL
      refine ⟨W'.w.ex _ _ kf, ?_⟩
      have W3 := W'.lock (o := .dT (kvsOf (dk.map (·.1)) rs)) kf
      have eB3 := ekB (Ex.refl B2)
      refine ⟨_, rfl, _, rfl, by show 2 ≤ sizeLine; decide, fun t ht => ?_⟩
      have W4 := W3.newK (o := .tup [.ref tl, .ref l]) ht
      have e4 := ex_know (o := .tup [.ref tl, .ref l]) (W3.none ht)
      have WX := W4.swap.drop.drop
      have kn := WX.knows
      have ttw : ∀ x (y : Lt), TupE B2 x y → TupE (allBut s c [] _) x y := fun x y ⟨a, a1, a2⟩ => ⟨a, a1, kn _ _ (e4 _ _ (by rw [upd_ne fun z => by rw [z, kf] at a2; cases a2]; exact a2))⟩
      refine q t tl l _ _ kvT kvL (eB3.trans (e4.trans kn)) WX.all.w (kn _ _ upd_same) ((bT.mono fun a o h => ?_).ext ttw) ((bL.mono fun a o h => ?_).ext ttw) (fun d => ?_) nT (fun d => ?_) sL
      · exact W4.swap.drop.yield h
      · exact W4.drop.yield h
      · rw [gT d]
        split
        · rfl
        · rename_i h
          rw [gotG_out h]
          rfl
      · rw [gL d]
        split
        · rfl
        · rename_i h
          rw [gotG_out h]
          rfl
end
end K19

set_option maxHeartbeats 1000000
namespace K19
open PySem PySem.Spec PyProof.Rows L2 Evl MyG
theorem book_list {N : Hp} {b : Addr} {E : V → Lt → Prop} {kv : List (Door × List Lt)} (bk : BkG E N b kv) : ∀ {ds : List Door}, (∀ d ∈ ds, d ∈ kv.map (·.1)) → ∃ ys : List V, Paired (fun (y : V) (d : Door) => ∃ kvs r xs, N b = some (.dT kvs) ∧ y = .ref r ∧ valV kvs (keyD d) = some (.ref r) ∧ N r = some (.lst xs) ∧ Paired E xs (gotG kv d)) ys ds
  | [], _ => ⟨[], .nil⟩
  | d :: ds, h => by
    obtain ⟨ys, p⟩ := book_list bk (ds := ds) fun x hx => h x (List.mem_cons_of_mem _ hx)
    obtain ⟨j, hj⟩ := gotG_in (h d (List.mem_cons_self ..))
    obtain ⟨kvs, r, xs, a1, a2, a3, a4⟩ := bk.row hj
    exact ⟨.ref r :: ys, .cons ⟨kvs, r, xs, a1, rfl, a2, a3, a4⟩ p⟩
theorem dq_list {H N : Hp} {b : Addr} {kv : List (Door × List Lt)} {B : Hp} (eN : Ex N H) (eB : Ex B H) : ∀ {ys : List V} {ds : List Door}, Paired (fun (y : V) (d : Door) => ∃ kvs r xs, N b = some (.dT kvs) ∧ y = .ref r ∧ valV kvs (keyD d) = some (.ref r) ∧ N r = some (.lst xs) ∧ Paired (TupE B) xs (gotG kv d)) ys ds → DqAll H ys ((ds.map (gotG kv)).map fun l => .list (laneD l))
  | _, _, .nil => .nil
  | _, _, .cons ⟨kvs, r, xs, a1, a2, a3, a4, a5⟩ t => .cons (by rw [a2]; exact .lst (eN _ _ a4) (dq_tups (Paired.mapP a5 fun _ _ ⟨a, h1, h2⟩ => ⟨a, h1, eB _ _ h2⟩))) (dq_list eN eB t)
theorem eqv_doors2 : ∀ dd : List Door, PyData.eqv (.list (dd.map doorD)) (.list (dd.map doorD)) = true
  | [] => by simp [PyData.eqv, PyData.eqvAll]
  | d :: dd => by
    have ih := eqv_doors2 dd
    simp only [PyData.eqv] at ih
    simp [PyData.eqv, PyData.eqvAll, doorD, ih]
def sp_same : Sp := fun vs H Q _ => ∃ (B N1 N2 : Hp) (t1 t2 : Addr) (kv1 kv2 : List (Door × List Lt)), vs = [.ref t1, .ref t2] ∧ Ex B H ∧ Ex N1 H ∧ Ex N2 H ∧ BkG (TupE B) N1 t1 kv1 ∧ BkG (TupE B) N2 t2 kv2 ∧ (∀ d, d ∈ kv1.map (·.1) ↔ d ∈ kv2.map (·.1)) ∧ (∀ d, gotG kv1 d = gotG kv2 d) ∧ kv2.length ≤ 24 ∧ (∀ d, (gotG kv2 d).length ≤ 900) ∧
  ∀ H', Ex H H' → Q (.bl true) H'
section
variable {P : Program} {w : World} {K : PySem.W.Frag} {mg : Str → Option Value} {base : Heap}
theorem ok_same (T : Tx K mg) : FnOk P w K mg base CX0 5 T.a_l_same T.d_l_same ["_law_told", "_law_wanted"] sp_same := by
  have G_l_alike := ok_alike (P := P) (w := w) (base := base) T 4
  refine T.F_l_same.ok sc_l_same (fun vs H Q E h => ?_) (fun cdv A outer s H vs Q E hr h => ?_)
  · obtain ⟨_, _, _, _, _, _, _, rfl, _⟩ := h
    rfl
  · obtain ⟨B, N1, N2, t1, t2, kv1, kv2, rfl, eB, eN1, eN2, b1, b2, kk, gg, few, len, q⟩ := h
    refine ⟨_, (pss_cons (ps_set (i := 2) sc_l_same.nd rfl (Or.inl rfl) (pe_callB (sortedDTK rfl) (by rfl) T.z_sorted (by decide +kernel) (pa_cons (pv 1) pa_nil)))
  (pss_cons (ps_if (pt_cmpR (op_neK (K := K) rfl hr.units) (pe_callB (sortedDTK rfl) (by rfl) T.z_sorted (by decide +kernel) (pa_cons (pv 0) pa_nil)) (pv 2) (nomark _)) (pss_one (ps_ret pe_bl)) pss_nil)
  (pss_one (ps_ret (pe_call G_l_alike (hr.mono (by decide)) (by rfl) T.g_l_alike T.F_l_alike.kp T.b_l_alike .nil pass0 (pa_cons (pe_lc (own := [("_law_door", 3)]) (g := (gName 3)) (tt := tYes) rfl sc_l_same.nd (iListK (K := K) rfl (pv 2)) (blkOk_by (N := n_l_same) (sc := defScope s_l_same) (by decide +kernel)) (fun _ _ _ _ _ => (pg_name (i := 3) sc_l_same.nd rfl (Or.inl rfl))) (fun _ _ _ _ _ => pts_nil) (fun _ _ _ _ _ => (pe_dget (Nat.lt_of_le_of_lt (Nat.add_le_add_left (by decide) _) hr.units) (pv 0) (pv 3) (fun _ _ => rfl)))) (pa_cons (pe_lc (own := [("_law_door", 3)]) (g := (gName 3)) (tt := tYes) rfl sc_l_same.nd (iListK (K := K) rfl (pv 2)) (blkOk_by (N := n_l_same) (sc := defScope s_l_same) (by decide +kernel)) (fun _ _ _ _ _ => (pg_name (i := 3) sc_l_same.nd rfl (Or.inl rfl))) (fun _ _ _ _ _ => pts_nil) (fun _ _ _ _ _ => (pe_dget (Nat.lt_of_le_of_lt (Nat.add_le_add_left (by decide) _) hr.units) (pv 1) (pv 3) (fun _ _ => rfl)))) pa_nil))))))), ?_⟩
    obtain ⟨rs1, a1, a2, a3, a4⟩ := b1.ex
    obtain ⟨rs2, c1, c2, c3, c4⟩ := b2.ex
    refine ⟨_, rfl, ?_⟩
    unfold tNil
    show rSortedDT [.ref t2] H _
    refine sort_doorsD (.inl (eN2 _ _ c1)) (by rw [List.length_map]; exact c3) b2.nd fun z ys ds pm so hys hz => ?_
    have ez := Ex.new (o := .lst ys) hz
    have hys1 := hys.keep fun a zs h => ez a _ h
    have hz1 : (upd H z (.lst ys)) z = some (.lst ys) := upd_same
    have e1 := eN1.trans ez
    have eB1 := eB.trans ez
    have e12 := eN2.trans ez
    generalize upd H z (.lst ys) = H1 at ez hys1 hz1 e1 eB1 e12
    show tSeq _ _ _ _ _
    refine ⟨_, rfl, ?_⟩
    show rSortedDT [.ref t1] H1 _
    refine sort_doorsD (.inl (e1 _ _ a1)) (by rw [List.length_map]; exact a3) b1.nd fun z' ys' ds' pm' so' hys' hz' => ?_
    obtain rfl : ds' = ds := rising_eq so' so fun d => (pm'.mem_iff.trans (kk d)).trans pm.mem_iff.symm
    have ez' := Ex.new (o := .lst ys') hz'
    have hys2 := hys'.keep fun a zs h => ez' a _ h
    have hys3 := hys1.keep fun a zs h => ez' a _ h
    have hz2 := ez' _ _ hz1
    have hz3 : (upd H1 z' (.lst ys')) z' = some (.lst ys') := upd_same
    have e2 := e1.trans ez'
    have eB2 := eB1.trans ez'
    have e22 := e12.trans ez'
    have eH := ez.trans ez'
    generalize upd H1 z' (.lst ys') = H2 at ez' hys2 hys3 hz2 hz3 e2 eB2 e22 eH
    refine ⟨_, rfl, .list (ds'.map doorD), .list (ds'.map doorD), Dq.dp (.lst hz3 (dq_doors hys2)), Dq.dp (.lst hz2 (dq_doors hys3)), shaped_doors _, shaped_doors _, _, rfl, ?_⟩
    rw [eqv_doors2]
    refine iteF (un_next ?_)
    obtain ⟨y1, p1⟩ := book_list b1 (ds := ds') fun d hd => (kk d).mpr (pm.mem_iff.mp hd)
    obtain ⟨y2, p2⟩ := book_list b2 (ds := ds') fun d hd => pm.mem_iff.mp hd
    have l1 : y1.length = ds'.length := Paired.length p1
    have l2 : y2.length = ds'.length := Paired.length p2
    have ly : ys.length = ds'.length := Paired.length hys3
    have ld : ds'.length ≤ 24 := by
      rw [pm.length_eq, List.length_map]
      exact few
    refine ⟨_, rfl, z, rfl, ⟨_, SqL.of hz2⟩, fun L1 hL1 => lc_it walk_list (fun i H' => Ex H2 H' ∧ H' L1 = some (.lst (y1.take i))) ⟨Ex.new hL1, upd_same⟩ (fun i H' _ p => SqL.of (p.1 _ _ hz2)) ?_ ?_⟩
    · rintro i x Ha Ha' hi ⟨ex, hL⟩ ⟨rfl, hx⟩
      obtain ⟨d, hd, a, rfl, ha⟩ := paired_at hys3 hx
      obtain ⟨y, hy, kvs, r, xs, b1, rfl, b3, b4, b5⟩ := paired_at0 p1 hd
      refine ⟨rfl, un_yes (iteT ⟨_, rfl, _, rfl, t1, _, rfl, dget_door (ex _ _ (e2 _ _ b1)) (ex _ _ ha) b3, _, hL, len_lt (by rw [List.length_take]; omega), ex.mut hL1, ?_⟩)⟩
      rw [upd_same, take_snoc hy]
    · rintro H3 ⟨ex, hL⟩
      rw [List.take_of_length_le (by omega)] at hL
      have hz4 := ex _ _ hz2
      refine ⟨_, rfl, z, rfl, ⟨_, SqL.of hz4⟩, fun L2 hL2 => lc_it walk_list (fun i H' => Ex H3 H' ∧ H' L2 = some (.lst (y2.take i))) ⟨Ex.new hL2, upd_same⟩ (fun i H' _ p => SqL.of (p.1 _ _ hz4)) ?_ ?_⟩
      · rintro i x Ha Ha' hi ⟨ex', hL'⟩ ⟨rfl, hx⟩
        obtain ⟨d, hd, a, rfl, ha⟩ := paired_at hys3 hx
        obtain ⟨y, hy, kvs, r, xs, b1, rfl, b3, b4, b5⟩ := paired_at0 p2 hd
        refine ⟨rfl, un_yes (iteT ⟨_, rfl, _, rfl, t2, _, rfl, dget_door (ex' _ _ (ex _ _ (e22 _ _ b1))) (ex' _ _ (ex _ _ ha)) b3, _, hL', len_lt (by rw [List.length_take]; omega), ex'.mut hL2, ?_⟩)⟩
        rw [upd_same, take_snoc hy]
      · rintro H4 ⟨ex', hL'⟩
        rw [List.take_of_length_le (by omega)] at hL'
        have eq : ds'.map (gotG kv1) = ds'.map (gotG kv2) := List.map_congr_left fun d _ => gg d
        have eX := ex.trans ex'
        have dq1 := dq_list (e2.trans eX) (eB2.trans eX) p1
        rw [eq] at dq1
        refine ⟨.ref L1, .ref L2, _, rfl, .lst (ex' _ _ hL) dq1, .lst hL' (dq_list (e22.trans eX) (eB2.trans eX) p2), alk_rows (by rw [List.length_map]; omega) (fun l hl => ?_), fun H5 e5 => q _ ((eH.trans eX).trans e5)⟩
        obtain ⟨d, _, rfl⟩ := List.mem_map.mp hl
        exact Nat.le_trans (len d) (by decide)
end
end K19

set_option maxHeartbeats 1000000
/-! dict(d) of a dict whose keys are doors: pairs of a number below 12 and one below 1000 -/
namespace L2
open PySem PySem.Spec PyProof.Rows
namespace DH
def m : Nat := 2 ^ 64
def p1 : Nat := 11400714785074694791
def p2 : Nat := 14029467366897019727
def q1 : Nat := 614540362697595703
def q2 : Nat := 839798700976720815
def p5 : Nat := 2870177450012600261
def c0 : Nat := 2 ^^^ (p5 ^^^ 3527539)
/-- the tuple's hash, its numbers as letters -/
def tupG (m prime1 prime2 prime5 k31 k33 mix : Nat) (top : Int) (hashes : List Int) : Int :=
  let acc := hashes.foldl (init := prime5) fun acc h =>
    let acc := (acc + (h % (m : Int)).toNat * prime2) % m
    let acc := (acc * k31) % m + acc / k33
    (acc * prime1) % m
  let acc := (acc + (hashes.length ^^^ (prime5 ^^^ mix))) % m
  if acc == m - 1 then top else if acc < 2 ^ 63 then acc else (acc : Int) - m
def rotG (m k31 k33 x : Nat) : Nat := (x * k31) % m + x / k33
def stG (m p1 p2 k31 k33 acc h : Nat) : Nat := (rotG m k31 k33 ((acc + h * p2) % m) * p1) % m
def lastG (m : Nat) (top : Int) (x : Nat) : Int := if x == m - 1 then top else if x < 2 ^ 63 then (x : Int) else (x : Int) - m
theorem tupG_two {m p1 p2 p5 k31 k33 mix : Nat} {top : Int} {a b : Nat} (ha : a < m) (hb : b < m) : tupG m p1 p2 p5 k31 k33 mix top [(a : Int), (b : Int)] = lastG m top ((stG m p1 p2 k31 k33 (stG m p1 p2 k31 k33 p5 a) b + (2 ^^^ (p5 ^^^ mix))) % m) := by
  have e : ∀ {c : Nat}, c < m → ((c : Int) % (m : Int)).toNat = c := fun {c} h => by
    rw [Int.emod_eq_of_lt (by omega) (by omega)]
    rfl
  unfold tupG
  simp only [List.foldl_cons, List.foldl_nil, e ha, e hb]
  rfl
theorem tupG_is (hs : List Int) : Builtin.Tuple.tupleHashOf hs = tupG (2 ^ 64) 11400714785074694791 14029467366897019727 2870177450012600261 (2 ^ 31) (2 ^ 33) 3527539 1546275796 hs := rfl
def rot (x : Nat) : Nat := rotG m (2 ^ 31) (2 ^ 33) x
def st (acc h : Nat) : Nat := stG m p1 p2 (2 ^ 31) (2 ^ 33) acc h
def fin (a b : Nat) : Nat := (st (st p5 a) b + c0) % m
theorem no_last : ((List.range 12).all fun a => (List.range 1000).all fun b => fin a b != m - 1) = true := by decide +kernel
theorem rot_inj {x y : Nat} (hx : x < m) (hy : y < m) (h : rot x = rot y) : x = y := by
  have e : ∀ z : Nat, (z * 2 ^ 31) % m = (z % 2 ^ 33) * 2 ^ 31 := fun z => by
    show (z * 2 ^ 31) % (2 ^ 33 * 2 ^ 31) = _
    exact Nat.mul_mod_mul_right _ _ _
  unfold rot rotG at h
  rw [e, e] at h
  unfold m at hx hy
  have h1 : x / 2 ^ 33 < 2 ^ 31 := by omega
  have h2 : y / 2 ^ 33 < 2 ^ 31 := by omega
  omega
theorem mul_inj {p q t : Nat} (hq : p * q = 1 + m * t) {x y : Nat} (hx : x < m) (hy : y < m) (h : (x * p) % m = (y * p) % m) : x = y := by
  have e : ∀ z : Nat, z < m → ((z * p) % m * q) % m = z := fun z hz => by
    rw [Nat.mul_mod, Nat.mod_mod, ← Nat.mul_mod, Nat.mul_assoc, hq, Nat.mul_add, Nat.mul_one, ← Nat.mul_assoc, Nat.mul_comm z m, Nat.mul_assoc, Nat.add_mul_mod_self_left, Nat.mod_eq_of_lt hz]
  rw [← e x hx, ← e y hy, h]
theorem p1q : p1 * q1 = 1 + m * 379806830464837242 := by decide +kernel
theorem p2q : p2 * q2 = 1 + m * 638699622168397319 := by decide +kernel
theorem m_pos : 0 < m := by decide
theorem rot_lt {x : Nat} (hx : x < m) : rot x < m := by
  have e : (x * 2 ^ 31) % m = (x % 2 ^ 33) * 2 ^ 31 := by
    show (x * 2 ^ 31) % (2 ^ 33 * 2 ^ 31) = _
    exact Nat.mul_mod_mul_right _ _ _
  unfold rot rotG
  rw [e]
  unfold m at hx ⊢
  omega
theorem st_inj {a b h k : Nat} (e : st a h = st b k) : (a + h * p2) % m = (b + k * p2) % m := by
  have l1 := Nat.mod_lt (a + h * p2) m_pos
  have l2 := Nat.mod_lt (b + k * p2) m_pos
  exact rot_inj l1 l2 (mul_inj p1q (rot_lt l1) (rot_lt l2) e)
def Y (a : Nat) : Nat := (st p5 a * q2) % m
theorem y_apart : ∀ a b : Fin 12, a ≠ b → (Y a.val + 1000 ≤ Y b.val ∨ Y b.val + 1000 ≤ Y a.val) ∧ Y a.val + 1000 < m ∧ Y b.val + 1000 < m := by decide +kernel
theorem shift (x b : Nat) : ((x + b * p2) % m * q2) % m = (x * q2 % m + b) % m := by
  rw [Nat.mul_mod, Nat.mod_mod, ← Nat.mul_mod, Nat.add_mul, Nat.mul_assoc, p2q, Nat.mul_add, Nat.mul_one, ← Nat.mul_assoc, Nat.mul_comm b m, Nat.mul_assoc, ← Nat.add_assoc, Nat.add_mul_mod_self_left]
  exact (Nat.mod_add_mod _ _ _).symm
theorem st2_inj {a b a' b' : Nat} (ha : a < 12) (hb : b < 1000) (ha' : a' < 12) (hb' : b' < 1000) (e : st (st p5 a) b = st (st p5 a') b') : a = a' ∧ b = b' := by
  have h : ((st p5 a + b * p2) % m * q2) % m = ((st p5 a' + b' * p2) % m * q2) % m := by rw [st_inj e]
  rw [shift, shift] at h
  by_cases z : a = a'
  · subst z
    refine ⟨rfl, ?_⟩
    have hy : st p5 a * q2 % m < m := Nat.mod_lt _ m_pos
    generalize st p5 a * q2 % m = u at h hy
    unfold m at h hy
    omega
  · exfalso
    obtain ⟨h1, h2, h3⟩ := y_apart ⟨a, ha⟩ ⟨a', ha'⟩ (fun q => z (by injection q))
    dsimp only at h1 h2 h3
    unfold Y at h1 h2 h3
    generalize st p5 a * q2 % m = u at h h1 h2 h3
    generalize st p5 a' * q2 % m = v at h h1 h2 h3
    unfold m at h h2 h3
    omega
theorem fin_inj {a b a' b' : Nat} (ha : a < 12) (hb : b < 1000) (ha' : a' < 12) (hb' : b' < 1000) (e : fin a b = fin a' b') : a = a' ∧ b = b' := by
  refine st2_inj ha hb ha' hb' ?_
  unfold fin at e
  have h1 : st (st p5 a) b < m := Nat.mod_lt _ m_pos
  have h2 : st (st p5 a') b' < m := Nat.mod_lt _ m_pos
  generalize st (st p5 a) b = u at e h1
  generalize st (st p5 a') b' = v at e h2
  have c : c0 < m := by decide +kernel
  generalize c0 = w at e c
  unfold m at e h1 h2 c
  omega
def last (x : Nat) : Int := lastG m 1546275796 x
theorem hash_is {a b : Nat} (ha : a < m) (hb : b < m) : Builtin.Tuple.tupleHashOf [(a : Int), (b : Int)] = last (fin a b) := (tupG_is _).trans (tupG_two ha hb)
theorem m1_lt : m - 1 < m := by decide
theorem last_inj {x y : Nat} (hx : x < m) (hy : y < m) (nx : x ≠ m - 1) (ny : y ≠ m - 1) (h : reduceHash (last x) = reduceHash (last y)) : x = y := by
  have one : ∀ {z : Nat}, z < m → z ≠ m - 1 → reduceHash (last z) = if z < 2 ^ 63 then (z : Int) else (z : Int) - m := fun {z} hz nz => by
    have e : last z = if z < 2 ^ 63 then (z : Int) else (z : Int) - m := by
      unfold last lastG
      rw [if_neg (by simpa using nz)]
    rw [e]
    generalize hv : (if z < 2 ^ 63 then (z : Int) else (z : Int) - m) = v
    have hb : -(2 ^ 63 : Int) ≤ v ∧ v < 2 ^ 63 ∧ v ≠ -1 := by
      rw [← hv]
      unfold m at hz nz ⊢
      split <;> omega
    unfold reduceHash
    rw [if_pos (by simp only [Bool.and_eq_true, decide_eq_true_eq]; exact ⟨hb.1, hb.2.1⟩), if_neg (by simpa using hb.2.2)]
  rw [one hx nx, one hy ny] at h
  unfold m at h hx hy
  split at h <;> split at h <;> omega
theorem no_at {a b : Nat} (ha : a < 12) (hb : b < 1000) : fin a b ≠ m - 1 := by
  have h := no_last
  rw [List.all_eq_true] at h
  have h2 := h a (List.mem_range.mpr ha)
  rw [List.all_eq_true] at h2
  simpa using h2 b (List.mem_range.mpr hb)
theorem hashInt_small {k : Nat} (h : k < 1000) : hashInt (k : Int) = (k : Int) := by
  have e : rawHash (k : Int) = (k : Int) := by
    have h1 : ((k : Int).natAbs : Int) % ((2 ^ 61 - 1 : Nat) : Int) = (k : Int) := by
      rw [Int.natAbs_natCast]
      exact Int.emod_eq_of_lt (by omega) (by omega)
    have h2 : (if (k : Int) < 0 then -(k : Int) else (k : Int)) = (k : Int) := if_neg (by omega)
    have h3 : ((k : Int) == -1) = false := beq_eq_false_iff_ne.mpr (by omega)
    unfold rawHash
    dsimp only
    rw [h1, h2, h3]
    rfl
  unfold hashInt
  rw [e, if_neg (by first | (simp; done) | (simp; omega))]
theorem key_inj {prog : Program} {w : World} {a b a' b' : Nat} (ha : a < 12) (hb : b < 1000) (ha' : a' < 12) (hb' : b' < 1000) (e : tupleKeyHash (mixKind prog w) [.inl (a : Int), .inl (b : Int)] = tupleKeyHash (mixKind prog w) [.inl (a' : Int), .inl (b' : Int)]) : a = a' ∧ b = b' := by
  have k : ∀ {a b : Nat}, a < 12 → b < 1000 → tupleKeyHash (mixKind prog w) [.inl (a : Int), .inl (b : Int)] = reduceHash (last (fin a b)) := fun {a b} ha hb => by
    unfold tupleKeyHash
    show reduceHash (Builtin.Tuple.tupleHashOf [hashInt (a : Int), hashInt (b : Int)]) = _
    have l1 : a < m := Nat.lt_of_lt_of_le ha (by decide)
    have l2 : b < m := Nat.lt_of_lt_of_le hb (by decide)
    rw [hashInt_small (show a < 1000 by omega), hashInt_small hb, hash_is l1 l2]
  rw [k ha hb, k ha' hb'] at e
  exact fin_inj ha hb ha' hb' (last_inj (Nat.mod_lt _ m_pos) (Nat.mod_lt _ m_pos) (no_at ha hb) (no_at ha' hb') e)
end DH
end L2
namespace L2
open PySem PySem.Spec PyProof.Rows
section
variable {prog : Program} {w : World} {K : Type} [DecidableEq K] {knd : HeapKind prog w K} {A : Around} {E : Value → Shared → Prop} {s : Shared}
theorem call_dictH {o : Addr} {more : List (K × Addr × Value)} {Q : Value → Shared → Prop} (hu : knd.room A.in1.in1) (hoS : (o == sysModules) = false) (ho : s.heap.DictOfH knd o more) (ho' : (s.heap.push { cls := .type "dict", data := .dict #[] }).DictOfH knd o more) (hsz : more.length ≤ sizeLine)
    (hap : (∀ x ∈ more, s.TypeIs (.ref x.2.1) "tuple") ∧ (more.map fun x => knd.hash x.1).Nodup) (hn : (more.map (·.1)).Nodup)
    (h : ∀ h', h'.DictOfH knd s.heap.objs.size more → Heap.SameBut s.heap.objs.size (s.heap.push { cls := .type "dict", data := .dict #[] }) h' → Q (.ref s.heap.objs.size) { s with heap := h' }) :
    wpAny (model prog w) A (call (.type "dict") [.ref o]) Q E s := by
  refine callType_codes (Q₁ := fun obj s₁ => obj = .ref s.heap.objs.size ∧ s₁ = { s with heap := s.heap.push { cls := .type "dict", data := .dict #[] } }) F.kt_called_dict (F.kt_typeCall_dict_1 _) F.entry_dict_init (kt_code_dict_new _ ⟨rfl, rfl⟩) ?_
  rintro obj s₁ ⟨rfl, rfl⟩
  have hnew : (s.heap.push { cls := .type "dict", data := .dict #[] }).DictOfH knd s.heap.objs.size [] := Heap.DictOfH.new s.heap
  have hdo : s.heap.objs.size ≠ o := by
    obtain ⟨_, _, _, hg, _⟩ := ho
    exact fun e => absurd (Heap.lt_size hg) (by rw [e]; exact Nat.lt_irrefl _)
  refine ⟨Heap.DictOfH.typeIs (s := { s with heap := s.heap.push { cls := .type "dict", data := .dict #[] } }) hnew, F.args_dict_init_2 _ _, ?_⟩
  unfold Builtin.«dict.__init__»
  refine wpAny_bind ?_
  unfold Builtin.Dict.selfAndRest
  refine wpAny_bind (wpAny_notOrdered_dict (Heap.DictOfH.typeIs (s := { s with heap := s.heap.push { cls := .type "dict", data := .dict #[] } }) hnew) ?_)
  show wpAny _ _ (pure (s.heap.objs.size, [Value.ref o])) _ _ _
  refine wpAny_pure ?_
  show wpAny _ _ (Builtin.Dict.updateFrom "dict.__init__" s.heap.objs.size (.ref o) [] .none) _ _ _
  refine updateFrom_dictH (A := A.in1) (s := { s with heap := s.heap.push { cls := .type "dict", data := .dict #[] } }) .none hu hdo hoS hnew ho' (.inr ⟨fun x hx => ?_, hap.2⟩) (by simpa using hsz) fun h' hd' _ hs' => ?_
  · obtain ⟨ob, g1, g2⟩ := hap.1 x hx
    exact ⟨ob, Heap.get?_push_of_some _ g1, g2⟩
  · rw [storedAllH_nil_of_nodup more hn] at hd'
    exact ⟨rfl, h h' hd' hs'⟩
end
section
variable {X : Cx}
theorem call_copyT (hu : X.A.units + 2 < cLine) : CallR X (.type "dict") (fun xs H Q => ∃ (a : Addr) (kvs : List (List Key × V)), xs = [.ref a] ∧ Rd H a (.dT kvs) ∧ (∀ kv ∈ kvs, ∃ i j : Nat, i < 12 ∧ j < 1000 ∧ kv.1 = [.inl (i : Int), .inl (j : Int)]) ∧ ∀ p, H p = none → Q (.ref p) (upd H p (.dT kvs))) := by
  intro pins s σ H xs us Q I r q
  obtain ⟨a, kvs, rfl, hd, hk, q⟩ := q
  obtain ⟨u, rfl, rx⟩ := r.one
  cases rx
  obtain ⟨z, hs, vs, pr, o, es, ep, ho, hx, hdt, he, hn⟩ := (show ObjOk X.prog X.w H s.heap a (.dT kvs) from hd.ok I.hok)
  have hH : ∀ {s' : Shared}, HOk X.prog X.w H s'.heap → ∀ x ∈ vs, (tupleKind (mixKind X.prog X.w)).is s'.heap x.1 x.2.1 := by
    intro s' ok
    have all : ∀ {l : List (List Key × V)} {m : List (List Key × Addr × Value)}, KT H l m → ∀ x ∈ m, (tupleKind (mixKind X.prog X.w)).is s'.heap x.1 x.2.1 := by
      intro l m q
      induction q with
      | nil => intro x hx; exact nomatch hx
      | @cons p q ps qs hq t ih =>
        intro x hx
        rcases List.mem_cons.mp hx with e | hx
        · subst e
          exact key_of ok (by rw [← hq.1]; exact hq.2.1)
        · exact ih x hx
    exact all pr
  have keys : kvs.map (·.1) = vs.map (·.1) := by
    have all : ∀ {l : List (List Key × V)} {m : List (List Key × Addr × Value)}, KT H l m → l.map (·.1) = m.map (·.1) := by
      intro l m q
      induction q with
      | nil => rfl
      | @cons p q ps qs hq t ih => rw [List.map_cons, List.map_cons, ih, hq.1]
    exact all pr
  have dH : s.heap.DictOfH (tupleKind (mixKind X.prog X.w)) a vs := ⟨o, es, ep, ho, hx, hdt, he, hH (s' := s) I.hok, hn⟩
  have I1 : Inv X pins σ H { s with heap := s.heap.push { cls := .type "dict", data := .dict #[] } } := I.kept (t' := s.toks) fun b ob e => Heap.get?_push_of_some _ e
  have dH1 : (s.heap.push { cls := .type "dict", data := .dict #[] }).DictOfH (tupleKind (mixKind X.prog X.w)) a vs := ⟨o, es, ep, Heap.get?_push_of_some _ ho, hx, hdt, he, hH (s' := { s with heap := s.heap.push { cls := .type "dict", data := .dict #[] } }) I1.hok, hn⟩
  have len : kvs.length = vs.length := Paired.length pr
  refine call_dictH (knd := tupleKind (mixKind X.prog X.w)) ?_ hs dH dH1 (by omega) ⟨fun x hx => ?_, ?_⟩ hn fun h' d' hsb => ?_
  · exact (show X.A.in1.in1.units < cLine from hu)
  · obtain ⟨o1, its, n, g1, g2, g3, g4⟩ := hH (s' := s) I.hok x hx
    exact ⟨o1, g1, g2⟩
  · have hd : ∀ x ∈ vs, ∃ i j : Nat, i < 12 ∧ j < 1000 ∧ x.1 = [.inl (i : Int), .inl (j : Int)] := fun x hx => by
      have m : x.1 ∈ kvs.map (·.1) := by rw [keys]; exact List.mem_map.mpr ⟨x, hx, rfl⟩
      obtain ⟨kv, h1, h2⟩ := List.mem_map.mp m
      obtain ⟨i, j, a1, a2, a3⟩ := hk kv h1
      exact ⟨i, j, a1, a2, by rw [← h2]; exact a3⟩
    rw [List.Nodup, List.pairwise_map] at hn ⊢
    refine hn.imp_of_mem fun {x y} hx hy ne e => ne ?_
    obtain ⟨i, j, a1, a2, a3⟩ := hd x hx
    obtain ⟨i', j', b1, b2, b3⟩ := hd y hy
    have e : tupleKeyHash (mixKind X.prog X.w) x.1 = tupleKeyHash (mixKind X.prog X.w) y.1 := e
    rw [a3, b3] at e ⊢
    obtain ⟨rfl, rfl⟩ := DH.key_inj a1 a2 b1 b2 e
    rfl
  · have hm : (s.heap.objs.size == sysModules) = false := beq_eq_false_iff_ne.mpr (Nat.ne_of_gt I.big)
    obtain ⟨o2, es2, ep2, k1, k2, k3, k4, k5, k6⟩ := d'
    exact ⟨.ref s.heap.objs.size, upd H s.heap.objs.size (.dT kvs), I.laid (t' := s.toks) (fun b u e => (hsb.2 b (Nat.ne_of_lt (Heap.lt_size e))).trans (Heap.get?_push_of_some _ e)) (Nat.le_refl _)
      ⟨z, hm, vs, KT.keeps pr fun b ys e => (by rw [upd_ne fun z => by rw [z, I.hok.fresh (Nat.le_refl _)] at e; cases e]; exact e), o2, es2, ep2, k1, k2, k3, k4, k6⟩, rfl, q _ (I.hok.fresh (Nat.le_refl _))⟩
end
end L2

set_option maxHeartbeats 1000000
namespace K19
open PySem PySem.Spec PyProof.Rows L2 Evl MyG
theorem copy_ok {K : PySem.W.Frag} {B N H : Hp} {b : Addr} {kv : List (Door × List Lt)} {Q : VK} {s0 s1 s2 s3 s4 s5 s6 s7 s8 s9 s11 s12 s13 s14 s15 s16 s17 s18 : Option V} (bk : BookAt B N b kv) (eN : Ex N H) (eB : Ex B H) (few : kv.length ≤ 1000)
    (q : ∀ b' N' H', Chg emp N' H H' → BookAt B N' b' kv → Q (.ref b') H') :
    tCB (fun xs H Q => ∃ (a : Addr) (ps : List Addr) (kvs : List (List Key × V)), xs = [.ref a] ∧ SqL K H a (ps.map V.ref) ∧ Paired (fun p kv => ∃ t, SqT K H p [.ref t, kv.2] ∧ H t = some (.tup (kv.1.map kV))) ps kvs ∧ ∀ p, H p = none → Q (.ref p) (upd H p (.dT (mergeT [] kvs))))
      (tCons (tLockE (tLc (iKeys (tVar 10)) (gName 18) tYes (tTup (tCons (tVar 18) (tCons (tCB (rListQ K) (tCons (tDGet (tVar 10) (tVar 18)) tNil)) tNil))) [18])) tNil)
      [s0, s1, s2, s3, s4, s5, s6, s7, s8, s9, some (.ref b), s11, s12, s13, s14, s15, s16, s17, s18] H Q := by
  obtain ⟨rb, hb, rnd, rl, hrb⟩ := id bk.ex
  have hbH := eN _ _ hb
  refine ⟨b, _, hbH, True.intro, fun od => ?_⟩
  refine ⟨_, rfl, b, od, rfl, .inr ⟨_, upd_same, fun D hD => ?_⟩⟩
  generalize hHL : upd H b (.frz od (.dT (kvsOf (kv.map (·.1)) rb))) = HL at hD
  have locked : HL b = some (.frz od (.dT (kvsOf (kv.map (·.1)) rb))) := by rw [← hHL]; exact upd_same
  have into : ∀ {a : Addr} {o : HO}, H a = some o → a ≠ b → HL a = some o := fun h z => by rw [← hHL, upd_ne z]; exact h
  have lk : (kvsOf (kv.map (·.1)) rb).length = kv.length := by rw [kvs_len _ _ (by rw [List.length_map]; exact rl), List.length_map]
  refine lc_it walk_keysT (fun i H' => ∃ (N' : Hp) (ps rr : List Addr), Chg emp N' HL H' ∧ Copy B N' H' D kv i ps rr) ⟨_, [], [], Chg.new ex_emp hD, upd_same, .nil, .nil, List.nodup_nil, by simp⟩ (fun i H' _ ⟨_, _, _, c, _⟩ => c.frame _ _ rfl locked) ?_ ?_
  · rintro i y Ha Hb hi ⟨N', ps, rr, ch, cy⟩ ⟨rfl, kk, v, a, hkv, rfl, ha⟩
    obtain ⟨d, r, hd, hr', rfl, rfl⟩ := kvs_at hkv
    obtain ⟨e, he, ys, hy, hys⟩ := paired_at hrb hr'
    have ed : e.1 = d := by
      rw [List.getElem?_map, he] at hd
      exact Option.some.inj hd
    have hlk := ch.frame _ _ rfl locked
    have hrb1 : Hb r = some (.lst ys) := ch.frame _ _ rfl (into (eN _ _ hy) (ne_of (eN _ _ hy) hbH (by intro z; cases z)))
    refine ⟨rfl, un_yes (iteT ?_)⟩
    refine ⟨_, rfl, _, rfl, _, rfl, b, .ref r, rfl, .inr ⟨_, keyD d, a, .inr ⟨od, hlk⟩, rfl, ha, (valV_kvs bk.nd hd hr').symm⟩, r, ys, rfl, .inl (SqL.of hrb1), fun f hf => ⟨by show 2 ≤ sizeLine; decide, fun T2 hT2 => ?_⟩⟩
    have c2 := ch.trans (Chg.new (o := .lst ys) ch.now hf)
    have eT2 := Ex.new (o := .tup [.ref a, .ref f]) hT2
    have c3 := c2.trans (Chg.ext c2.now eT2)
    have nf : ∀ {x : Addr} {o : HO}, N' x = some o → x ≠ f := fun hx z => by
      have := ch.now _ _ hx
      rw [z, hf] at this
      cases this
    have hD2 : (upd N' f (.lst ys)) D = some (.lst (ps.map V.ref)) := by rw [upd_ne (nf cy.list)]; exact cy.list
    have c4 := c3.trans (Chg.put (o := .lst (ps.map V.ref ++ [.ref T2])) c3.now hD2)
    have hDn := c3.now _ _ hD2
    have lr : rr.length = i := by
      have h1 := Paired.length cy.rows
      have h2 := (List.getElem?_eq_some_iff.mp he).1
      rw [List.length_take] at h1
      omega
    have lp : ps.length = i := by
      have h1 := Paired.length cy.pairs
      have h2 := (List.getElem?_eq_some_iff.mp he).1
      rw [kvs_len _ _ (by rw [List.length_take, List.length_map, lr]; omega), List.length_take, List.length_map] at h1
      omega
    have li := (List.getElem?_eq_some_iff.mp he).1
    have keep : ∀ {x : Addr} {zs : List V}, Hb x = some (.tup zs) → (upd (upd (upd Hb f (.lst ys)) T2 (.tup [.ref a, .ref f])) D (.lst (ps.map V.ref ++ [.ref T2]))) x = some (.tup zs) := fun {x zs} h => by
      have h2 := eT2 _ _ (Ex.new (o := .lst ys) hf _ _ h)
      rw [upd_ne (ne_of h2 hDn (by intro z; cases z))]
      exact h2
    refine ⟨_, hDn, len_lt (by rw [List.length_map]; omega), _, ps ++ [T2], rr ++ [f], c4, ?_, ?_, ?_, ?_, ?_⟩
    · rw [upd_same, List.map_append]
      rfl
    · rw [take_snoc hd, kvs_snoc2 (by rw [List.length_take, List.length_map, lr]; omega)]
      refine Paired.snoc (Paired.mapP cy.pairs fun p kv ⟨t, h1, h2⟩ => ⟨t, keep h1, keep h2⟩) ⟨a, ?_, keep ha⟩
      rw [upd_ne (fun z => by rw [z, c2.now _ _ hD2] at hT2; cases hT2)]
      exact upd_same
    · rw [take_snoc he]
      refine Paired.snoc (paired_mem cy.rows fun x e hx ⟨xs, h1, h2⟩ => ⟨xs, ?_, h2⟩) ⟨ys, ?_, hys⟩
      · rw [upd_ne (fun z => cy.nD (by rw [← z]; exact hx)), upd_ne (nf h1)]
        exact h1
      · rw [upd_ne (nf cy.list).symm, upd_same]
    · refine List.nodup_append.mpr ⟨cy.nd, by simp, fun x hx y hy => ?_⟩
      rw [List.mem_singleton] at hy
      subst hy
      obtain ⟨j, hj⟩ := List.mem_iff_getElem?.mp hx
      obtain ⟨_, _, xs, h1, _⟩ := paired_at cy.rows hj
      exact nf h1
    · rw [List.mem_append, List.mem_singleton]
      rintro (z | z)
      · exact cy.nD z
      · exact nf cy.list z
  · rintro H' ⟨N', ps, rr, ch, cy⟩
    refine ⟨ch.frame _ _ rfl locked, ?_⟩
    have cyp := cy.pairs
    have cyr := cy.rows
    rw [lk, List.take_of_length_le (by rw [List.length_map]; exact Nat.le_refl _)] at cyp
    rw [lk, List.take_length] at cyr
    have lr := Paired.length cyr
    rw [← hHL] at ch
    have cu := ch.unlock hbH
    have hbl := ch.frame b _ rfl upd_same
    unfold tNil
    dsimp only
    have keep : ∀ {x : Addr} {zs : List V}, H' x = some (.tup zs) → (upd H' b (.dT (kvsOf (kv.map (·.1)) rb))) x = some (.tup zs) := fun {x zs} h => by
      rw [upd_ne (ne_of h hbl (by intro z; cases z))]
      exact h
    refine ⟨D, ps, _, rfl, SqL.of (cu.now _ _ cy.list), Paired.mapP cyp fun p kv ⟨t, h1, h2⟩ => ⟨t, SqT.of (keep h1), keep h2⟩, fun b' hb' => ?_⟩
    have mk := mergeT_kvs (dd := kv.map (·.1)) (ad := []) (rr := rr) (ar := []) (by rw [List.length_map]; exact lr) rfl (by rw [List.nil_append]; exact bk.nd)
    have mk : mergeT [] (kvsOf (kv.map (·.1)) rr) = kvsOf (kv.map (·.1)) rr := mk
    rw [mk]
    have nb : ∀ {x : Addr} {o : HO}, N' x = some o → x ≠ b' := fun hx z => by
      have := cu.now _ _ hx
      rw [z, hb'] at this
      cases this
    refine q b' _ _ (cu.trans (Chg.new cu.now hb')) ⟨⟨rr, upd_same, cy.nd, lr, Paired.mapP cyr fun r e ⟨xs, h1, h2⟩ => ⟨xs, by rw [upd_ne (nb h1)]; exact h1, h2⟩⟩, bk.nd⟩
end K19

set_option maxHeartbeats 1000000
namespace K19
open PySem PySem.Spec PyProof.Rows L2 Evl MyG
/-! ### what a post told, kept -/
def KeptAt (H0 H : Hp) (a : Addr) (W : List Door) (L : List (List Lt)) (t : Nat) : Prop := ∃ (D E : Addr) (xs ys : List V), H a = some (.lst [.ref D, .ref E, .int (t : Nat)]) ∧ H0 a = none ∧ H0 D = none ∧ H0 E = none ∧ H D = some (.lst xs) ∧ DoorsAt H xs W ∧ H E = some (.lst ys) ∧
  Paired (fun (y : V) (l : List Lt) => ∃ r zs, y = .ref r ∧ H0 r = none ∧ H r = some (.lst zs) ∧ TupsAt H zs l) ys L
theorem dq_rowsK {H H' H0 : Hp} (k : ∀ a o, H a = some o → (H0 a = none ∨ ∃ ys, o = .tup ys) → H' a = some o) : ∀ {ys : List V} {L : List (List Lt)}, Paired (fun (y : V) (l : List Lt) => ∃ r zs, y = .ref r ∧ H0 r = none ∧ H r = some (.lst zs) ∧ TupsAt H zs l) ys L → DqAll H' ys (L.map fun l => .list (laneD l))
  | _, _, .nil => .nil
  | _, _, .cons ⟨r, zs, h1, h2, h3, h4⟩ t => .cons (by rw [h1]; exact .lst (k _ _ h3 (.inl h2)) (dq_tups (Paired.mapP h4 fun _ _ ⟨a, a1, a2⟩ => ⟨a, a1, k _ _ a2 (.inr ⟨_, rfl⟩)⟩))) (dq_rowsK k t)
theorem KeptAt.dq {H0 H H' : Hp} {a : Addr} {W : List Door} {L : List (List Lt)} {t : Nat} (h : KeptAt H0 H a W L t) (k : ∀ a o, H a = some o → (H0 a = none ∨ ∃ ys, o = .tup ys) → H' a = some o) :
    Dq H' (.ref a) (.list [.list (W.map doorD), .list (L.map fun l => .list (laneD l)), .int (t : Nat)]) := by
  obtain ⟨D, E, xs, ys, h1, h2, h3, h4, h5, h6, h7, h8⟩ := h
  exact .lst (k _ _ h1 (.inl h2)) (.cons (.lst (k _ _ h5 (.inl h3)) (dq_doors (h6.keep fun a zs q => k _ _ q (.inr ⟨_, rfl⟩)))) (.cons (.lst (k _ _ h7 (.inl h4)) (dq_rowsK k h8)) (.cons (.int _) .nil)))
theorem kept_ok {K : PySem.W.Frag} {C S A : Addr} {B M H : Hp} {p n : Addr} {ds : List Door} {ls : List (List Lt)} {Q : VK} {s0 s1 s2 s3 s4 s5 s6 s7 s8 s10 s11 s12 s13 s14 s15 s16 s17 s18 : Option V} (eB : Ex B H) (eM : Ex M H) (po : PostAt C S A B M p n ds ls) (dl : ds.length ≤ 24) (tot : total ls ≤ 900) (ll : ls.length = ds.length)
    (q : ∀ a H', Ex H H' → KeptAt H H' a (waits ds ls) (lanesOf ls) (total ls) → Q (.ref a) H') :
    tLst (tCons (tMeth C "waiting" (sp_pwaiting C S A) [] E0 (tVar 9) tNil) (tCons (tLc (iList K (tMeth C "waiting" (sp_pwaiting C S A) [] E0 (tVar 9) tNil)) (gName 18) tYes (tDGet (tMeth C "rows" (sp_prows C S A) [] E0 (tVar 9) tNil) (tVar 18)) [18])
      (tCons (tCB (rLenO C (sp_plen C S A) E0) (tCons (tVar 9) tNil)) tNil))) [s0, s1, s2, s3, s4, s5, s6, s7, s8, some (.ref p), s10, s11, s12, s13, s14, s15, s16, s17, s18] H Q := by
  obtain ⟨dx, e, rs, h1, _⟩ := id po.ex
  have wl : (waits ds ls).length ≤ 24 := Nat.le_trans waits_sub.length_le dl
  refine ⟨_, rfl, p, dx, _, rfl, eM _ _ h1, pf_no _ _ (by decide +kernel) (by decide +kernel), p, n, B, M, ds, ls, rfl, eM, po, by omega, fun D xs H1 hD e1 hD1 hx => ?_⟩
  have m1 := eM.trans e1
  refine ⟨_, rfl, p, dx, _, rfl, m1 _ _ h1, pf_no _ _ (by decide +kernel) (by decide +kernel), p, n, B, M, ds, ls, rfl, m1, po, by omega, fun D2 xs2 H2 hD2 e2 hD22 hx2 => ?_⟩
  have e02 := e1.trans e2
  have lxs : xs2.length = (waits ds ls).length := Paired.length hx2
  have ln := lanes_len (ds := ds) (ls := ls) ll
  refine ⟨D2, rfl, ⟨_, SqL.of hD22⟩, fun E hE => lc_it walk_list (fun i H' => ∃ ys, Ex H2 H' ∧ H' E = some (.lst ys) ∧ ys.length = i ∧ Paired (fun (y : V) (l : List Lt) => ∃ r zs, y = .ref r ∧ H r = none ∧ H' r = some (.lst zs) ∧ r ≠ E ∧ TupsAt H' zs l) ys ((lanesOf ls).take i)) ⟨[], Ex.new hE, upd_same, rfl, by rw [List.take_zero]; exact .nil⟩ (fun i H' _ ⟨_, ex, _⟩ => SqL.of (ex _ _ hD22)) ?_ ?_⟩
  · rintro i x Ha Ha' hi ⟨ys, ex, hEa, ly, hys⟩ ⟨rfl, hxi⟩
    have hi' : i < xs2.length := hi
    obtain ⟨d, hd, a, rfl, ha⟩ := paired_at hx2 hxi
    have eH := e02.trans ex
    have ma := eM.trans eH
    refine ⟨rfl, un_yes (iteT ⟨_, rfl, p, dx, _, rfl, ma _ _ h1, pf_no _ _ (by decide +kernel) (by decide +kernel), p, n, B, M, ds, ls, rfl, eB.trans eH, ma, po, by omega, fun l hl => Nat.le_trans (lane_le hl) (by omega), fun R rr Hb hR eb hRb rnd rrl told => ?_⟩)⟩
    have hr : rr[i]? = some (rr[i]'(by omega)) := List.getElem?_eq_getElem (by omega)
    rw [rrl, ← ln, List.take_length] at told
    obtain ⟨l, hl, t1, t2, zs, t3, t4⟩ := paired_at told hr
    have Wnd := waits_nd (ls := ls) po.nd
    have rE : rr[i]'(by omega) ≠ E := fun z => ne_of_none hEa t1 z.symm
    have hEb := eb _ _ hEa
    refine ⟨_, rfl, R, .ref (rr[i]'(by omega)), rfl, dget_door hRb (eb _ _ (ex _ _ ha)) (valV_kvs Wnd hd hr), ys, hEb, len_lt (by omega), ys ++ [.ref (rr[i]'(by omega))], (ex.trans eb).mut hE, upd_same, by rw [List.length_append, ly]; rfl, ?_⟩
    rw [take_snoc hl]
    have up : ∀ {a : Addr} {o : HO}, a ≠ E → Hb a = some o → (upd Hb E (.lst (ys ++ [.ref (rr[i]'(by omega))]))) a = some o := fun n h => by rw [upd_ne n]; exact h
    have upt : ∀ {a : Addr} {ws : List V}, Hb a = some (.tup ws) → (upd Hb E (.lst (ys ++ [.ref (rr[i]'(by omega))]))) a = some (.tup ws) := fun h => by rw [upd_ne (ne_of h hEb (by intro z; cases z))]; exact h
    refine Paired.snoc (Paired.mapP hys fun y l ⟨r, zs, a1, a2, a3, a4, a5⟩ => ⟨r, zs, a1, a2, up a4 (eb _ _ a3), a4, Paired.mapP a5 fun _ _ ⟨b, b1, b2⟩ => ⟨b, b1, upt (eb _ _ b2)⟩⟩) ⟨_, zs, rfl, fresh_back eH t1, up rE t3, rE, Paired.mapP t4 fun _ _ ⟨b, b1, _, b3⟩ => ⟨b, b1, upt b3⟩⟩
  · rintro H3 ⟨ys, ex, hE3, ly, hys⟩
    rw [List.take_of_length_le (by omega)] at hys
    have e03 := e02.trans ex
    have m3 := eM.trans e03
    refine ⟨_, rfl, p, dx, _, rfl, m3 _ _ h1, p, n, B, M, ds, ls, rfl, m3, po, by omega, fun H4 e4 => ⟨(total ls : Nat), rfl, by omega, by omega, ?_⟩⟩
    refine ⟨by show 3 ≤ sizeLine; decide, fun a ha => ?_⟩
    have ea := Ex.new (o := .lst [.ref D, .ref E, .int (total ls : Nat)]) ha
    have e4a := e4.trans ea
    refine q a _ (e03.trans e4a) ⟨D, E, xs, ys, upd_same, fresh_back (e03.trans e4) ha, hD, fresh_back e02 hE, ((e2.trans ex).trans e4a) _ _ hD1, hx.keep fun a zs h => ((e2.trans ex).trans e4a) _ _ h, e4a _ _ hE3, ?_⟩
    exact Paired.mapP hys fun y l ⟨r, zs, a1, a2, a3, _, a5⟩ => ⟨r, zs, a1, a2, e4a _ _ a3, Paired.mapP a5 fun _ _ ⟨b, b1, b2⟩ => ⟨b, b1, e4a _ _ b2⟩⟩
end K19

set_option maxHeartbeats 1000000
namespace K19
open PySem PySem.Spec PyProof.Rows L2 Evl MyG
theorem IntD.noTup {N : Hp} {b : Addr} {f : Door → Int} {m : Nat} (h : IntD N b f m) : IntD (noTup N) b f m := by
  obtain ⟨kvs, h1, h2⟩ := h
  exact ⟨kvs, noTup_some h1 (fun ys z => by cases z), h2⟩
theorem KeysD.noTup {N : Hp} {b : Addr} (h : KeysD N b) : KeysD (noTup N) b := fun kvs e => h kvs (noTup_ex _ _ e)
theorem ToldSo.noTup {B N : Hp} {t : Addr} {dk : List (Door × List OL)} {g : Door → Nat} {kv : List (Door × List Lt)} (h : ToldSo B N t dk g kv) : ToldSo B (noTup N) t dk g kv := ⟨h.bk.noTup, h.got, h.ne⟩
theorem perm3 {α : Type} (a b c : α) (R : List α) : (a :: b :: c :: R).Perm (c :: b :: a :: R) := by
  classical
  rw [List.perm_iff_count]
  intro x
  simp only [List.count_cons]
  omega
theorem told_full {B N : Hp} {t : Addr} {dk : List (Door × List OL)} {g : Door → Nat} {kv kvT : List (Door × List Lt)} (h : ToldSo B N t dk g kv) (full : ∀ d, g d = (gotG dk d).length) (gT : ∀ d, gotG kvT d = (snt (gotG dk d)).take (non (gotG dk d))) (nT : ∀ d ∈ kvT.map (·.1), gotG kvT d ≠ []) :
    (∀ d, d ∈ kv.map (·.1) ↔ d ∈ kvT.map (·.1)) ∧ (∀ d, gotG kv d = gotG kvT d) := by
  have e : ∀ d, gotG kv d = gotG kvT d := fun d => by rw [h.got d, full d, told_all, gT d]
  refine ⟨fun d => ⟨fun m => ?_, fun m => ?_⟩, e⟩
  · by_cases z : d ∈ kvT.map (·.1)
    · exact z
    · exact absurd (by rw [e d, gotG_out z]) (h.ne d m)
  · by_cases z : d ∈ kv.map (·.1)
    · exact z
    · exact absurd (by rw [← e d, gotG_out z]) (nT d m)
theorem left_full {ds : List Door} {dk : List (Door × List OL)} {g : Door → Nat} {kvL : List (Door × List Lt)} (full : ∀ d, g d = (gotG dk d).length) (sub : ∀ e ∈ dk, e.1 ∈ ds) (gL : ∀ d, gotG kvL d = (snt (gotG dk d)).drop (non (gotG dk d))) (sL : ∀ d ∈ kvL.map (·.1), d ∈ dk.map (·.1)) : Agrees ds (rowsOf ds dk g) kvL := by
  refine ⟨fun e he => ?_, fun i d l hi hl => ?_, by unfold rowsOf; rw [List.length_map]⟩
  · obtain ⟨e', h1, h2⟩ := List.mem_map.mp (sL e.1 (List.mem_map.mpr ⟨e, he, rfl⟩))
    rw [← h2]
    exact sub e' h1
  · unfold rowsOf at hl
    rw [List.getElem?_map, hi, Option.map_some, full d, row_all] at hl
    rw [got_gotG, gL d]
    exact Option.some.inj hl
theorem rows_zero (ds : List Door) (dk : List (Door × List OL)) : rowsOf ds dk (fun _ => 0) = ds.map fun _ => [] := by
  unfold rowsOf
  exact List.map_congr_left fun d _ => row_zero _
theorem rows_lens {ds : List Door} {dk : List (Door × List OL)} {g : Door → Nat} : (rowsOf ds dk g).length = ds.length := by unfold rowsOf; rw [List.length_map]
theorem paired_cutT {xs : List V} {B : Hp} {ord : List Door} (h : DoorsAt B xs ord) (k : Nat) : DoorsAt B (xs.take k) (ord.take k) ∧ DoorsAt B (xs.drop k) (ord.drop k) := ⟨paired_take k h, paired_drop k h⟩
section
variable {P : Program} {w : World} {K : PySem.W.Frag} {mg : Str → Option Value} {base : Heap}
theorem ok_law (T : Tx K mg) : FnOkG P w K mg base CX0 9 T.a_law T.d_law ["_law_script"] (sp_law K) := by
  have G_l_state := ok_state (P := P) (w := w) (base := base) T
  have G_l_draw := ok_draw (P := P) (w := w) (base := base) T
  have G_l_any_ground := ok_any_ground (P := P) (w := w) (base := base) T
  have G_l_row := ok_row (P := P) (w := w) (base := base) T
  have G_l_order := ok_order (P := P) (w := w) (base := base) T
  have G_l_done := ok_done (P := P) (w := w) (base := base) T
  have G_l_due := ok_due (P := P) (w := w) (base := base) T
  have G_l_same := ok_same (P := P) (w := w) (base := base) T
  have G_l_alike := ok_alike (P := P) (w := w) (base := base) T 5
  have G_l_stands := ok_stands (P := P) (w := w) (base := base) T
  have G_Net___init__ := ok_init (P := P) (w := w) (base := base) T
  have G_Post___init__ := ok_pinit (P := P) (w := w) (base := base) T
  have G_Post_twin := ok_ptwin (P := P) (w := w) (base := base) T
  have G_Post_waiting := ok_pwaiting (P := P) (w := w) (base := base) T
  have G_Post_rows := ok_prows (P := P) (w := w) (base := base) T
  have G_Post___len__ := ok_plen (P := P) (w := w) (base := base) T
  refine okG T.F_law sc_law (fun vs H Q E h => ?_) (fun cdv A outer s0 H vs Q E hgd hr h => ?_)
  · obtain ⟨_, _, rfl, _⟩ := h
    rfl
  · obtain ⟨a, ns, rfl, ha, hn, q⟩ := h
    refine ⟨_, (pss_cons (ps_set (i := 1) sc_law.nd rfl (Or.inl rfl) (pe_call G_l_state (hr.mono (by decide)) (by rfl) T.g_l_state T.F_l_state.kp T.b_l_state .nil pass0 (pa_cons (pv 0) pa_nil)))
  (pss_cons (ps_asg (pe_call G_l_any_ground (hr.mono (by decide)) (by rfl) T.g_l_any_ground T.F_l_any_ground.kp T.b_l_any_ground .nil pass0 (pa_cons (pv 1) pa_nil)) (pg_tup rfl (pgs_cons (pg_name (i := 2) sc_law.nd rfl (Or.inl rfl)) (pgs_cons (pg_name (i := 3) sc_law.nd rfl (Or.inl rfl)) pgs_nil))))
  (pss_cons (ps_set (i := 4) sc_law.nd rfl (Or.inl rfl) (pe_make T.m_Net G_Net___init__ (hr.mono (by decide)) (by rfl) T.g_Net T.b_Net___init__ .nil pass0 (pa_cons (pv 2) (pa_cons (pv 3) pa_nil))))
  (pss_cons (ps_set (i := 5) sc_law.nd rfl (Or.inl rfl) (pe_call G_l_row (hr.mono (by decide)) (by rfl) T.g_l_row T.F_l_row.kp T.b_l_row .nil pass0 (pa_cons (pv 1) (pa_cons (pv 3) (pa_cons (pe_op op_add pe_int (pe_call G_l_draw (hr.mono (by decide)) (by rfl) T.g_l_draw T.F_l_draw.kp T.b_l_draw .nil pass0 (pa_cons (pv 1) (pa_cons pe_int pa_nil)))) pa_nil)))))
  (pss_cons (ps_asg (pe_call G_l_due (hr.mono (by decide)) (by rfl) T.g_l_due T.F_l_due.kp T.b_l_due .nil pass0 (pa_cons (pv 5) pa_nil)) (pg_tup rfl (pgs_cons (pg_name (i := 6) sc_law.nd rfl (Or.inl rfl)) (pgs_cons (pg_name (i := 7) sc_law.nd rfl (Or.inl rfl)) pgs_nil))))
  (pss_cons (ps_for PassesOwn.never rfl (pi_range1 rfl T.z_range (pa_cons pe_int pa_nil)) (pg_name (i := 8) sc_law.nd rfl (Or.inl rfl))
   (pss_cons (ps_asg (pe_tup (pa_cons (pe_make T.m_Post G_Post___init__ (hr.mono (by decide)) (by rfl) T.g_Post T.b_Post___init__ .nil pass0 (pa_cons (pv 4) pa_nil)) (pa_cons pe_dnewT (pa_cons (pe_call G_l_order (hr.mono (by decide)) (by rfl) T.g_l_order T.F_l_order.kp T.b_l_order .nil pass0 (pa_cons (pv 1) (pa_cons (pv 5) pa_nil))) pa_nil)))) (pg_tup rfl (pgs_cons (pg_name (i := 9) sc_law.nd rfl (Or.inr rfl)) (pgs_cons (pg_name (i := 10) sc_law.nd rfl (Or.inr rfl)) (pgs_cons (pg_name (i := 11) sc_law.nd rfl (Or.inl rfl)) pgs_nil)))))
  (pss_cons (ps_par (i := 12) (j := 13) rfl sc_law.nd rfl rfl (by decide) rfl rfl (pa_cons (pe_call G_l_draw (hr.mono (by decide)) (by rfl) T.g_l_draw T.F_l_draw.kp T.b_l_draw .nil pass0 (pa_cons (pv 1) (pa_cons (pe_op op_add (pe_callB (lenK (K := K) rfl) (by rfl) T.z_len (by decide +kernel) (pa_cons (pv 11) pa_nil)) pe_int) pa_nil))) (pa_cons pe_dnewT pa_nil)) (by rfl))
  (pss_cons (ps_expr (pe_call G_l_done (hr.mono (by decide)) (by rfl) T.g_l_done T.F_l_done.kp T.b_l_done .nil pass0 (pa_cons (pv 9) (pa_cons (pv 3) (pa_cons (pv 5) (pa_cons (pe_slice (sl_listK (K := K) rfl) (pv 11) po_none (po_some (pv 12))) (pa_cons (pv 13) (pa_cons (pv 10) pa_nil))))))))
  (pss_cons (ps_par3 (i := 14) (j := 15) (l := 16) rfl sc_law.nd rfl rfl rfl (by decide) (by decide) (by decide) rfl rfl rfl (pa_cons (pe_meth0 (pv 9) T.cl_Post T.me_Post_twin G_Post_twin (hr.mono (by decide)) T.b_Post_twin .nil pass0) (pa_cons (pe_callTy (call_copyT (Nat.lt_of_le_of_lt (Nat.add_le_add_left (by decide) _) hr.units)) (by rfl) T.z_dict (by decide +kernel) (pa_cons (pv 13) pa_nil)) (pa_cons (pe_callTy (call_dictT rfl (Nat.lt_of_le_of_lt (Nat.add_le_add_left (by decide) _) hr.units)) (by rfl) T.z_dict (by decide +kernel) (pa_cons (pe_lock (pe_lc (own := [("_law_door", 18)]) (g := (gName 18)) (tt := tYes) rfl sc_law.nd (pi_keys (pv 10)) (blkOk_by (N := n_law) (sc := defScope s_law) (by decide +kernel)) (fun _ _ _ _ _ => (pg_name (i := 18) sc_law.nd rfl (Or.inl rfl))) (fun _ _ _ _ _ => pts_nil) (fun _ _ _ _ _ => (pe_tup (pa_cons (pv 18) (pa_cons (pe_callTy (listK (K := K) rfl) (by rfl) T.z_list (by decide +kernel) (pa_cons (pe_dget (Nat.lt_of_le_of_lt (Nat.add_le_add_left (by decide) _) hr.units) (pv 10) (pv 18) (fun _ _ => rfl)) pa_nil)) pa_nil)))))) pa_nil)) pa_nil))) (by rfl))
  (pss_cons (ps_set (i := 17) sc_law.nd rfl (Or.inl rfl) (pe_lst (pa_cons (pe_meth0 (pv 9) T.cl_Post T.me_Post_waiting G_Post_waiting (hr.mono (by decide)) T.b_Post_waiting .nil pass0) (pa_cons (pe_lc (own := [("_law_door", 18)]) (g := (gName 18)) (tt := tYes) rfl sc_law.nd (iListK (K := K) rfl (pe_meth0 (pv 9) T.cl_Post T.me_Post_waiting G_Post_waiting (hr.mono (by decide)) T.b_Post_waiting .nil pass0)) (blkOk_by (N := n_law) (sc := defScope s_law) (by decide +kernel)) (fun _ _ _ _ _ => (pg_name (i := 18) sc_law.nd rfl (Or.inl rfl))) (fun _ _ _ _ _ => pts_nil) (fun _ _ _ _ _ => (pe_dget (Nat.lt_of_le_of_lt (Nat.add_le_add_left (by decide) _) hr.units) (pe_meth0 (pv 9) T.cl_Post T.me_Post_rows G_Post_rows (hr.mono (by decide)) T.b_Post_rows .nil pass0) (pv 18) (fun _ _ => rfl)))) (pa_cons (pe_callB (call_lenO T.me_Post___len__ G_Post___len__ (hr.mono (by decide)) T.b_Post___len__ pass0) (by rfl) T.z_len (by decide +kernel) (pa_cons (pv 9) pa_nil)) pa_nil)))))
  (pss_cons (ps_expr (pe_call G_l_done (hr.mono (by decide)) (by rfl) T.g_l_done T.F_l_done.kp T.b_l_done .nil pass0 (pa_cons (pv 14) (pa_cons (pv 3) (pa_cons (pv 5) (pa_cons (pe_slice (sl_listK (K := K) rfl) (pv 11) (po_some (pv 12)) po_none) (pa_cons (pv 15) (pa_cons (pv 16) pa_nil))))))))
  (pss_cons (ps_if (PW.pt (pw_or (pt_not (pt_val (pe_call G_l_same (hr.mono (by decide)) (by rfl) T.g_l_same T.F_l_same.kp T.b_l_same .nil pass0 (pa_cons (pv 16) (pa_cons (pv 6) pa_nil))))) (pw_or1 (pt_not (pt_val (pe_call G_l_stands (hr.mono (by decide)) (by rfl) T.g_l_stands T.F_l_stands.kp T.b_l_stands .nil pass0 (pa_cons (pv 14) (pa_cons (pv 7) pa_nil)))))))) (pss_one (ps_ret pe_bl)) pss_nil)
  (pss_cons (ps_if (pt_not (pt_val (pe_call G_l_alike (hr.mono (by decide)) (by rfl) T.g_l_alike T.F_l_alike.kp T.b_l_alike .nil pass0 (pa_cons (pe_lst (pa_cons (pe_meth0 (pv 9) T.cl_Post T.me_Post_waiting G_Post_waiting (hr.mono (by decide)) T.b_Post_waiting .nil pass0) (pa_cons (pe_lc (own := [("_law_door", 18)]) (g := (gName 18)) (tt := tYes) rfl sc_law.nd (iListK (K := K) rfl (pe_meth0 (pv 9) T.cl_Post T.me_Post_waiting G_Post_waiting (hr.mono (by decide)) T.b_Post_waiting .nil pass0)) (blkOk_by (N := n_law) (sc := defScope s_law) (by decide +kernel)) (fun _ _ _ _ _ => (pg_name (i := 18) sc_law.nd rfl (Or.inl rfl))) (fun _ _ _ _ _ => pts_nil) (fun _ _ _ _ _ => (pe_dget (Nat.lt_of_le_of_lt (Nat.add_le_add_left (by decide) _) hr.units) (pe_meth0 (pv 9) T.cl_Post T.me_Post_rows G_Post_rows (hr.mono (by decide)) T.b_Post_rows .nil pass0) (pv 18) (fun _ _ => rfl)))) (pa_cons (pe_callB (call_lenO T.me_Post___len__ G_Post___len__ (hr.mono (by decide)) T.b_Post___len__ pass0) (by rfl) T.z_len (by decide +kernel) (pa_cons (pv 9) pa_nil)) pa_nil)))) (pa_cons (pv 17) pa_nil))))) (pss_one (ps_ret pe_bl)) pss_nil)
  (pss_cons (ps_expr (pe_call G_l_done (hr.mono (by decide)) (by rfl) T.g_l_done T.F_l_done.kp T.b_l_done .nil pass0 (pa_cons (pv 9) (pa_cons (pv 3) (pa_cons (pv 5) (pa_cons (pe_slice (sl_listK (K := K) rfl) (pv 11) (po_some (pv 12)) po_none) (pa_cons (pv 13) (pa_cons (pv 10) pa_nil))))))))
  (pss_one (ps_if (PW.pt (pw_or (pt_not (pt_val (pe_call G_l_same (hr.mono (by decide)) (by rfl) T.g_l_same T.F_l_same.kp T.b_l_same .nil pass0 (pa_cons (pv 10) (pa_cons (pv 6) pa_nil))))) (pw_or1 (pt_not (pt_val (pe_call G_l_stands (hr.mono (by decide)) (by rfl) T.g_l_stands T.F_l_stands.kp T.b_l_stands .nil pass0 (pa_cons (pv 9) (pa_cons (pv 7) pa_nil)))))))) (pss_one (ps_ret pe_bl)) pss_nil))))))))))))
  (pss_one (ps_ret pe_bl)))))))), ?_⟩
    refine ⟨_, rfl, a, ns, rfl, ha, hn, fun s c H1 e1 hs hc st => ?_⟩
    have W1 : Wd s c emp H1 := ⟨fun _ _ h => (nomatch h), rfl, rfl, st⟩
    refine ⟨_, rfl, s, c, emp, rfl, W1, fun t p l ps ts rs B3 H3 eB3 W3 ht hp hl hts plc rd r1 p2 => ?_⟩
    refine ⟨t, _, rfl, SqT.of (W3.ex _ _ ht), rfl, _, _, rfl, _, _, rfl, rfl, ?_⟩
    show tSeq _ _ _ _ _
    refine ⟨_, rfl, _, rfl, fun n dx hn1 hdx ned => ⟨dx, n, p, l, ps, ts, rs, B3, rfl, upd_same, ?_, ?_, ?_, ?_, plc, rd, hts, fun H4 h r l' qs frame hh hr' hl' n4 h4 r4 pm so l4 => ⟨rfl, ?_⟩⟩⟩
    · exact W3.ex.trans (ex_make hn1 hdx ned)
    · exact W3.none_of hn1
    · exact ex_make hn1 hdx ned _ _ (W3.ex _ _ hp)
    · exact ex_make hn1 hdx ned _ _ (W3.ex _ _ hl)
    obtain ⟨B4, eB4, W4, net, _, e34⟩ := net_made W3 hn1 hdx frame hh hr' hl' n4 h4 r4 pm so l4 hts
    have r12 : rs.length ≤ 12 := rd.len
    have hne : ∀ r ∈ rs, r.1 ≠ r.2.1 := fun r hr => (rd.ok r hr).ne
    have bd : ∀ r ∈ rs, (0 ≤ r.1 ∧ r.1 < 1000) ∧ 0 ≤ r.2.1 ∧ r.2.1 < 1000 := fun r hr => by
      have h1 := plc.bd _ (rd.ok r hr).m1
      have h2 := plc.bd _ (rd.ok r hr).m2
      omega
    have hlB := eB4 _ _ hl
    have htsB := hts.mono eB4
    have dl : (doorsFrom 0 rs).length ≤ 24 := by rw [doors_len]; omega
    have dso : (doorsFrom 0 rs).Pairwise dLt := doors_so hne
    clear W1 W3 frame hh hr' hl' n4 h4 r4 pm so l4 e34 ht hp hl hts e1
    show tSeq _ _ _ _ _
    refine ⟨_, rfl, _, rfl, _, rfl, s, c, 30, rfl, W4.st, by decide, by decide, fun m5 H5 m50 m51 st5 off5 => ⟨_, _, rfl, rfl, s, c, l, B4, ts, rs, 1 + m5, rfl, W4.off st5 off5, hlB, htsB, r1, r12, by omega, by omega, hne, fun f dk B6 H6 e6 W6 dd sub mn => ?_⟩⟩
    have few : dk.length ≤ 24 := by
      have := len_subD dd.bk.nd (fun d hd => by
        obtain ⟨e, he, rfl⟩ := List.mem_map.mp hd
        exact sub e he) (ys := doorsFrom 0 rs)
      rw [List.length_map] at this
      omega
    show tSeq _ _ _ _ _
    refine ⟨_, rfl, s, c, f, B6, dk, rfl, W6, dd, mn, few, fun t7 tw lf B7 H7 kvT kvL e7 W7 ht7 bT bL gT nT gL sL => ?_⟩
    refine ⟨t7, _, rfl, SqT.of (W7.ex _ _ ht7), rfl, _, _, rfl, _, _, rfl, rfl, ?_⟩
    have dd7 := dd.ext e7
    have net7 := net.mono (e6.trans e7)
    have hl7 := (e6.trans e7) _ _ hlB
    have hts7 := htsB.mono (e6.trans e7)
    clear W4 W6 dd net hlB htsB st5 off5
    show tSeq _ _ _ _ _
    refine ⟨2, rfl, by decide, by decide, ?_⟩
    refine for_it (walk_range (lo := 0) (n := 2)) (fun i σ H' => ∃ (y8 y9 y10 y11 y12 y13 y14 y15 y16 y17 y18 : Option V) (B' : Hp), σ = [some (.ref a), some (.ref s), some (.ref p), some (.ref l), some (.ref n), some (.ref f), some (.ref tw), some (.ref lf), y8, y9, y10, y11, y12, y13, y14, y15, y16, y17, y18] ∧ Ex B7 B' ∧ Wd s c B' H')
      ⟨_, _, _, _, _, _, _, _, _, _, _, B7, rfl, Ex.refl _, W7⟩ (fun _ _ _ _ _ => True.intro) ?_ ?_
    rotate_left
    · rintro σ H' ⟨y8, y9, y10, y11, y12, y13, y14, y15, y16, y17, y18, B', rfl, eB, W'⟩
      exact q _
    rintro i x σ Ha Ha' hi ⟨y8, y9, y10, y11, y12, y13, y14, y15, y16, y17, y18, B', rfl, eB, W'⟩ ⟨rfl, rfl⟩
    have W0 : Wld s c B' [] Ha' := ⟨W', fun _ h => absurd h (by simp), fun _ h => absurd h (by simp), fun _ h => absurd h (by simp), .nil⟩
    have net' := net7.mono eB
    have dd' := dd7.ext eB
    show tSeq _ _ _ _ _
    refine ⟨_, rfl, fun x1 dx1 hx1 hdx1 ne1 => ⟨dx1, x1, n, B', ps, qs, rs, rfl, upd_same, ?_, ?_, net', r12, hne, fun M1 H1 po1 ch1 => ⟨rfl, fun tl htl => ?_⟩⟩⟩
    · exact W'.ex.trans (ex_make hx1 hdx1 ne1)
    · exact W'.none_of hx1
    have W1 := (post_new (C := T.c_Post) W0 hx1 hdx1 ne1).chg ch1
    have W2 : Wld s c B' [one tl (.dT []), M1] (upd H1 tl (.dT [])) := W1.one (o := .dT []) htl
    refine ⟨_, rfl, _, rfl, s, c, f, B', _, dk, rfl, W2, dd', mn, fun o xs ord B2 H3 e2 W3 ho hxs cnt ol => ?_⟩
    refine ⟨by show 3 ≤ sizeLine; decide, fun t3 ht3 => ⟨t3, _, rfl, SqT.of upd_same, rfl, _, _, rfl, _, _, rfl, _, _, rfl, rfl, ?_⟩⟩
    have W4 : Wld s c B2 [noTup (one tl (.dT [])), noTup M1] _ := W3.ext (Ex.new (o := .tup [.ref x1, .ref tl, .ref o]) ht3)
    have po2 := po1.noTup.ext e2
    have hb2 : noTup (one tl (.dT [])) tl = some (.dT []) := noTup_some one_at (fun ys z => by cases z)
    clear W0 W1 W2 W3 ch1 po1 W'
    generalize noTup M1 = M2 at W4 po2
    generalize noTup (one tl (.dT [])) = N2 at W4 hb2
    generalize upd H3 t3 (.tup [.ref x1, .ref tl, .ref o]) = H4 at W4 ⊢
    show tSeq _ _ _ _ _
    have lxo := Paired.length hxs
    refine ⟨_, rfl, _, rfl, o, xs, rfl, .inl (SqL.of (W4.w.ex _ _ ho)), _, _, rfl, rfl, s, c, _, rfl, W4.st, by omega, by omega, fun hf H5 hf0 hf1 st5 off5 => fun pl hpl => ⟨_, _, rfl, ?_⟩⟩
    have W5 : Wld s c B2 [one pl (.dT []), N2, M2] (upd H5 pl (.dT [])) := (W4.drawn st5 off5).one (o := .dT []) hpl
    obtain ⟨k, rfl⟩ : ∃ j : Nat, hf = (j : Int) := ⟨hf.toNat, by omega⟩
    clear W4 st5 off5
    generalize upd H5 pl (.dT []) = H6 at W5 ⊢
    show tSeq _ _ _ _ _
    refine ⟨_, rfl, _, rfl, _, rfl, _, rfl, _, rfl, (k : Int), rfl, o, xs, rfl, SqL.of (W5.w.ex _ _ ho), fun o2 ho2 => ?_⟩
    rw [cut_lo xs (k := k) (by omega)]
    have W6 := (W5.newK (o := .lst (xs.take k)) ho2).perm (List.perm_append_comm (l₁ := [one pl (.dT []), N2]) (l₂ := [M2]))
    have e6' : Ex B2 (upd B2 o2 (.lst (xs.take k))) := ex_know (W5.none ho2)
    have ho2B : (upd B2 o2 (.lst (xs.take k))) o2 = some (.lst (xs.take k)) := upd_same
    clear W5 ho2
    generalize upd B2 o2 (.lst (xs.take k)) = B6c at W6 e6' ho2B
    generalize upd H6 o2 (.lst (xs.take k)) = H6c at W6 ⊢
    have E6 := (eB.trans e2).trans e6'
    have hxs6 := hxs.keep fun a zs h => e6' a _ h
    have cntT : ∀ j d, (ord.take j).count d ≤ (gotG dk d).length := fun j d => by rw [← cnt d]; exact (List.take_sublist j ord).count_le d
    refine ⟨_, rfl, _, rfl, s, c, x1, l, f, o2, pl, tl, n, B6c, M2, one pl (.dT []), N2, [], ps, qs, rs, ts, xs.take k, dk, fun _ => 0, [], ord.take k, 0, rfl, W6, net7.mono E6, by rw [rows_zero]; exact po2.ext e6', ⟨[], one_at, Nat.le_refl _, fun _ => rfl⟩, by decide,
      ⟨⟨⟨[], hb2, List.nodup_nil, rfl, .nil⟩, List.nodup_nil⟩, fun d => by rw [told_zero]; rfl, fun d h => absurd h (by simp)⟩, E6 _ _ hl7, hts7.mono E6, r12, hne, bd, fun kvs e kv h => by rw [one_at] at e; obtain rfl := HO.dT.inj (Option.some.inj e); exact absurd h (by simp), dd7.ext E6, sub, mn, ho2B, (paired_cutT hxs6 k).1, by rw [List.length_take]; omega, fun d => by rw [Nat.zero_add]; exact cntT k d,
      fun B8 M8 N18 N28 kv8 H8 e8 W8 po8 int8 keys8 told8 => ?_⟩
    have E8 := E6.trans e8
    have eo8 := e6'.trans e8
    clear W6
    have m8 := W8.ex M8 (by simp)
    obtain ⟨dx8, ep8, rx8, g8, _⟩ := id po8.ex
    show tSeq _ _ _ _ _
    refine ⟨_, rfl, x1, dx8, _, rfl, m8 _ _ g8, pf_no _ _ (by decide +kernel) (by decide +kernel), x1, n, B8, M8, ps, qs, rs, _, _, rfl, ⟨W8.w.ex, m8, net7.mono E8, po8, r12⟩, by omega, hne, fun x2 M9 H9 po9 ch9 => ?_⟩
    have W9 := W8.add ch9
    have nP := W9.ex N18 (by simp)
    obtain ⟨kp, kp1, kp2, kp3⟩ := id int8
    refine ⟨_, rfl, pl, kp, rfl, .inl (nP _ _ kp1), keys8 kp kp1, fun pl2 hpl2 => ?_⟩
    have W10 : Wld s c B8 [one pl2 (.dT kp), M9, M8, N18, N28] (upd H9 pl2 (.dT kp)) := W9.one (o := .dT kp) hpl2
    have int10 : IntD (one pl2 (.dT kp)) pl2 _ _ := ⟨kp, one_at, kp2, kp3⟩
    have keys10 : KeysD (one pl2 (.dT kp)) pl2 := fun kvs e => by rw [one_at] at e; obtain rfl := HO.dT.inj (Option.some.inj e); exact keys8 kp kp1
    generalize upd H9 pl2 (.dT kp) = H10 at W10 ⊢
    generalize one pl2 (.dT kp) = Q2 at W10 int10 keys10
    have few8 := told8.few sub
    refine copy_ok told8.bk.book (W10.ex N28 (by simp)) W10.w.ex (by omega) fun tl2 T2 H11 ch11 bk11 => ?_
    have W11 := W10.add ch11
    clear W8 W9 W10 ch9 ch11 m8 nP
    have told11 : ToldSo B8 T2 tl2 dk (fun d => 0 + (ord.take k).count d) kv8 := ⟨⟨bk11.ex, bk11.nd⟩, told8.got, told8.ne⟩
    refine ⟨_, _, _, rfl, ?_⟩
    dsimp only
    have tot8 : total (rowsOf (doorsFrom 0 rs) dk fun d => 0 + (ord.take k).count d) ≤ 900 := Nat.le_trans (rows_total po8.nd dd7.bk.nd sub) (by omega)
    show tSeq _ _ _ [some (V.ref a), some (V.ref s), some (V.ref p), some (V.ref l), some (V.ref n), some (V.ref f), some (V.ref tw), some (V.ref lf), some (V.int (0 + (i : Int))), some (V.ref x1), some (V.ref tl), some (V.ref o), some (V.int (k : Int)), some (V.ref pl), some (V.ref x2), some (V.ref pl2), some (V.ref tl2), y17, y18] _
    refine un_seq (un_asg ?_)
    refine kept_ok W11.w.ex (W11.ex M8 (by simp)) po8 dl tot8 rows_lens fun a17 H12 e12 kp12 => ?_
    have W12 := W11.ext e12
    have W13 := W12.noTup.all
    have e13 := W12.noTup.knows
    have dq13 := kp12.dq (H' := allBut s c ([T2, Q2, M9, M8, N18, N28].map noTup) H12) (fun a o h z => by
      rcases z with z | ⟨ys, rfl⟩
      · exact allBut_at h (W11.st.ne_s z) (W11.st.ne_c z) fun R hR => by
          obtain ⟨R0, h0, rfl⟩ := List.mem_map.mp hR
          exact noTup_none (fresh_back (W11.ex R0 h0) z)
      · exact W12.tupAt h)
    simp only [List.map_cons, List.map_nil] at W13 e13 dq13
    generalize allBut s c _ H12 = B13 at W13 e13 dq13
    have po13 := po8.noTup.ext e13
    have po13' := po9.noTup.ext e13
    have told13 := told8.noTup.ext e13
    have told13' := told11.noTup.ext e13
    have E13 := E8.trans e13
    have eo13 := eo8.trans e13
    clear W11 W12 kp12 e12 po9 po8 told8 told11 kp1 kp2 kp3
    replace int8 := int8.noTup
    replace int10 := int10.noTup
    replace keys8 := keys8.noTup
    replace keys10 := keys10.noTup
    generalize noTup T2 = T3 at W13 told13'
    generalize noTup Q2 = Q3 at W13 int10 keys10
    generalize noTup M9 = M10 at W13 po13'
    generalize noTup M8 = M11 at W13 po13
    generalize noTup N18 = N19 at W13 int8 keys8
    generalize noTup N28 = N29 at W13 told13
    have full : ∀ d, 0 + (ord.take k).count d + (ord.drop k).count d = (gotG dk d).length := fun d => by
      rw [← cnt d, Nat.zero_add, ← List.count_append, List.take_append_drop]
    show tSeq _ _ _ _ _
    refine ⟨_, rfl, _, rfl, _, rfl, _, rfl, _, rfl, (k : Int), rfl, o, xs, rfl, SqL.of (W13.w.ex _ _ (eo13 _ _ ho)), fun o3 ho3 => ?_⟩
    rw [cut_hi xs (k := k) (by omega)]
    have W14 := (W13.newK (o := .lst (xs.drop k)) ho3).perm (perm3 T3 Q3 M10 [M11, N19, N29])
    have e14 : Ex B13 (upd B13 o3 (.lst (xs.drop k))) := ex_know (W13.none ho3)
    have ho3B : (upd B13 o3 (.lst (xs.drop k))) o3 = some (.lst (xs.drop k)) := upd_same
    clear W13 ho3
    generalize upd B13 o3 (.lst (xs.drop k)) = B14 at W14 e14 ho3B
    generalize upd H12 o3 (.lst (xs.drop k)) = H14 at W14 ⊢
    have E14 := E13.trans e14
    have hxs14 := hxs.keep fun a zs h => e14 _ _ (eo13 a _ h)
    have dq14 := dq13.ext e14
    have lT : (ord.take k).length ≤ 60 := by rw [List.length_take]; omega
    have lD : (ord.drop k).length ≤ 60 := by rw [List.length_drop]; omega
    refine ⟨_, rfl, _, rfl, s, c, x2, l, f, o3, pl2, tl2, n, B14, M10, Q3, T3, [M11, N19, N29], ps, qs, rs, ts, xs.drop k, dk, _, kv8, ord.drop k, 0 + (ord.take k).length, rfl, W14, net7.mono E14, po13'.ext e14, int10, by omega, told13'.ext e14, E14 _ _ hl7, hts7.mono E14, r12, hne, bd, keys10, dd7.ext E14, sub, mn, ho3B, (paired_cutT hxs14 k).2, lD, fun d => by rw [full d]; exact Nat.le_refl _,
      fun B15 M15 Q15 T15 kv15 H15 e15 W15 po15 int15 keys15 told15 => ?_⟩
    have E15 := E14.trans e15
    obtain ⟨ks15, gs15⟩ := told_full told15 full gT nT
    have fewT : kvT.length ≤ 24 := by
      have := keys_few told15.bk.nd (told15.sub)
      have h2 := len_subD bT.nd fun d hd => (ks15 d).mpr hd
      rw [List.length_map, List.length_map] at h2
      omega
    have lenT : ∀ d, (gotG kvT d).length ≤ 900 := fun d => by
      have h1 := gotG_le (kv := dk) (d := d)
      have h2 := snt_le (gotG dk d)
      rw [gT d, List.length_take]
      omega
    have bTk : ∀ {B' : Hp}, Ex B7 B' → BkG (TupE B') B' tw kvT := fun e => (bT.mono e).ext fun _ _ z => TupE.ext e z
    have bLk : ∀ {B' : Hp}, Ex B7 B' → BookAt B' B' lf kvL := fun e => ((bL.mono e).ext fun _ _ z => TupE.ext e z).book
    show tSeq _ _ _ _ _
    refine ⟨_, rfl, _, rfl, B15, T15, B15, tl2, tw, kv15, kvT, rfl, W15.w.ex, W15.ex T15 (by simp), W15.w.ex, told15.bk, bTk E15, ks15, gs15, fewT, lenT, fun H16 e16 => ⟨_, rfl, iteF ?_⟩⟩
    have W16 := W15.ext e16
    have tot15 : total (rowsOf (doorsFrom 0 rs) dk fun d => 0 + (ord.take k).count d + (ord.drop k).count d) ≤ 900 := Nat.le_trans (rows_total po15.nd dd7.bk.nd sub) (by omega)
    refine ⟨_, rfl, _, rfl, x2, n, lf, B15, M15, B15, doorsFrom 0 rs, _, kvL, rfl, W16.w.ex, W16.ex M15 (by simp), W16.w.ex, po15, dso, dl, tot15, bLk E15, left_full full sub gL sL, fun H17 e17 => ⟨_, rfl, iteF (un_next ?_)⟩⟩
    have W17 := (W16.ext e17).drop.drop.drop
    clear W15 W16 told15 int15 keys15 po15 W14 told13' int10 keys10 po13'
    have po17 := po13.ext (e14.trans e15)
    dsimp only
    show tSeq _ _ _ [some (V.ref a), some (V.ref s), some (V.ref p), some (V.ref l), some (V.ref n), some (V.ref f), some (V.ref tw), some (V.ref lf), some (V.int (0 + (i : Int))), some (V.ref x1), some (V.ref tl), some (V.ref o), some (V.int (k : Int)), some (V.ref pl), some (V.ref x2), some (V.ref pl2), some (V.ref tl2), some (V.ref a17), y18] _
    refine un_seq ?_
    unfold tIfS tNot tB tCall tCons
    dsimp only
    refine kept_ok W17.w.ex (W17.ex M11 (by simp)) po17 dl tot8 rows_lens fun a18 H18 e18 kp18 => ?_
    have W18 := W17.ext e18
    have dq18 := kp18.dq (H' := H18) (fun a o h _ => h)
    have wlen : (waits (doorsFrom 0 rs) (rowsOf (doorsFrom 0 rs) dk fun d => 0 + (ord.take k).count d)).length ≤ 24 := Nat.le_trans waits_sub.length_le dl
    have al : alk 5 (.list [.list ((waits (doorsFrom 0 rs) (rowsOf (doorsFrom 0 rs) dk fun d => 0 + (ord.take k).count d)).map doorD), .list ((lanesOf (rowsOf (doorsFrom 0 rs) dk fun d => 0 + (ord.take k).count d)).map fun l => .list (laneD l)), .int (total (rowsOf (doorsFrom 0 rs) dk fun d => 0 + (ord.take k).count d) : Nat)]) = true := by
      have h1 := alk_doors (dd := waits (doorsFrom 0 rs) (rowsOf (doorsFrom 0 rs) dk fun d => 0 + (ord.take k).count d)) (by omega)
      have h2 := alk_rows (ls := lanesOf (rowsOf (doorsFrom 0 rs) dk fun d => 0 + (ord.take k).count d)) (by rw [lanes_len rows_lens]; omega) (fun l hl => Nat.le_trans (lane_le (List.mem_filter.mp hl).1) (by omega))
      show (decide (3 ≤ 1000) && [_, _, _].all (alk 4)) = true
      simp only [List.all_cons, List.all_nil, h1, h2]
      rfl
    refine ⟨_, rfl, .ref a18, .ref a17, _, rfl, dq18, dq14.ext (e15.trans W18.w.ex), al, fun H19 e19 => ⟨_, rfl, iteF (un_next ?_)⟩⟩
    have W19 := W18.ext e19
    have eo15 := (eo13.trans e14).trans e15
    clear W17 W18 dq18 al kp18
    show tSeq _ _ _ _ _
    refine ⟨_, rfl, _, rfl, _, rfl, _, rfl, _, rfl, (k : Int), rfl, o, xs, rfl, SqL.of (W19.w.ex _ _ (eo15 _ _ ho)), fun o4 ho4 => ?_⟩
    rw [cut_hi xs (k := k) (by omega)]
    have W20 := W19.newK (o := .lst (xs.drop k)) ho4
    have e20 : Ex B15 (upd B15 o4 (.lst (xs.drop k))) := ex_know (W19.none ho4)
    have ho4B : (upd B15 o4 (.lst (xs.drop k))) o4 = some (.lst (xs.drop k)) := upd_same
    clear W19 ho4
    generalize upd B15 o4 (.lst (xs.drop k)) = B20 at W20 e20 ho4B
    generalize upd H19 o4 (.lst (xs.drop k)) = H20 at W20 ⊢
    have E20 := E15.trans e20
    have hxs20 := hxs.keep fun a zs h => e20 _ _ (eo15 a _ h)
    refine ⟨_, rfl, _, rfl, s, c, x1, l, f, o4, pl, tl, n, B20, M11, N19, N29, [], ps, qs, rs, ts, xs.drop k, dk, _, kv8, ord.drop k, 0 + (ord.take k).length, rfl, W20, net7.mono E20, po17.ext e20, int8, by omega, told13.ext ((e14.trans e15).trans e20), E20 _ _ hl7, hts7.mono E20, r12, hne, bd, keys8, dd7.ext E20, sub, mn, ho4B, (paired_cutT hxs20 k).2, lD, fun d => by rw [full d]; exact Nat.le_refl _,
      fun B21 M21 N21 N22 kv21 H21 e21 W21 po21 int21 keys21 told21 => ?_⟩
    have E21 := E20.trans e21
    obtain ⟨ks21, gs21⟩ := told_full told21 full gT nT
    dsimp only
    refine ⟨_, rfl, _, rfl, B21, N22, B21, tl, tw, kv21, kvT, rfl, W21.w.ex, W21.ex N22 (by simp), W21.w.ex, told21.bk, bTk E21, ks21, gs21, fewT, lenT, fun H22 e22 => ⟨_, rfl, iteF ?_⟩⟩
    have W22 := W21.ext e22
    refine ⟨_, rfl, _, rfl, x1, n, lf, B21, M21, B21, doorsFrom 0 rs, _, kvL, rfl, W22.w.ex, W22.ex M21 (by simp), W22.w.ex, po21, dso, dl, tot15, bLk E21, left_full full sub gL sL, fun H23 e23 => ⟨_, rfl, iteF (un_next ?_)⟩⟩
    exact ⟨_, _, _, _, _, _, _, _, _, _, _, B21, rfl, E21, (W22.ext e23).w⟩
end
end K19

set_option maxHeartbeats 8000000
namespace K19
open PySem PySem.Spec PyProof.Rows L2 Evl MyG
/-! ### what the top has written -/
theorem all_mk {l : PySem.W.OpenLaw} {w : World} {K : PySem.W.Frag} {h : Heap} {mg : Str → Option Value} {fa : Addr} (X : K.In h) (G : h.Ns mainGlobals mg) (hfa : mg "law" = some (.ref fa))
    {C_Letter : Addr}
    {C_Say : Addr}
    {C_Agree : Addr}
    {C_Net : Addr}
    {C_Post : Addr}
    {f_l_state : Addr} {od_l_state an_l_state : Option Addr} {sl_l_state : Array (Option Value)} {oc_l_state kV_l_state dc_l_state pm_l_state cd_l_state ct_l_state : Value}
    {f_l_draw : Addr} {od_l_draw an_l_draw : Option Addr} {sl_l_draw : Array (Option Value)} {oc_l_draw kV_l_draw dc_l_draw pm_l_draw cd_l_draw ct_l_draw : Value}
    {f_l_alike : Addr} {od_l_alike an_l_alike : Option Addr} {sl_l_alike : Array (Option Value)} {oc_l_alike kV_l_alike dc_l_alike pm_l_alike cd_l_alike ct_l_alike : Value}
    {f_l_ground : Addr} {od_l_ground an_l_ground : Option Addr} {sl_l_ground : Array (Option Value)} {oc_l_ground kV_l_ground dc_l_ground pm_l_ground cd_l_ground ct_l_ground : Value}
    {f_l_any_ground : Addr} {od_l_any_ground an_l_any_ground : Option Addr} {sl_l_any_ground : Array (Option Value)} {oc_l_any_ground kV_l_any_ground dc_l_any_ground pm_l_any_ground cd_l_any_ground ct_l_any_ground : Value}
    {f_l_beyond : Addr} {od_l_beyond an_l_beyond : Option Addr} {sl_l_beyond : Array (Option Value)} {oc_l_beyond kV_l_beyond dc_l_beyond pm_l_beyond cd_l_beyond ct_l_beyond : Value}
    {f_l_letter : Addr} {od_l_letter an_l_letter : Option Addr} {sl_l_letter : Array (Option Value)} {oc_l_letter kV_l_letter dc_l_letter pm_l_letter cd_l_letter ct_l_letter : Value}
    {f_l_made : Addr} {od_l_made an_l_made : Option Addr} {sl_l_made : Array (Option Value)} {oc_l_made kV_l_made dc_l_made pm_l_made cd_l_made ct_l_made : Value}
    {f_l_stands : Addr} {od_l_stands an_l_stands : Option Addr} {sl_l_stands : Array (Option Value)} {oc_l_stands kV_l_stands dc_l_stands pm_l_stands cd_l_stands ct_l_stands : Value}
    {f_l_row : Addr} {od_l_row an_l_row : Option Addr} {sl_l_row : Array (Option Value)} {oc_l_row kV_l_row dc_l_row pm_l_row cd_l_row ct_l_row : Value}
    {f_l_order : Addr} {od_l_order an_l_order : Option Addr} {sl_l_order : Array (Option Value)} {oc_l_order kV_l_order dc_l_order pm_l_order cd_l_order ct_l_order : Value}
    {f_l_done : Addr} {od_l_done an_l_done : Option Addr} {sl_l_done : Array (Option Value)} {oc_l_done kV_l_done dc_l_done pm_l_done cd_l_done ct_l_done : Value}
    {f_l_due : Addr} {od_l_due an_l_due : Option Addr} {sl_l_due : Array (Option Value)} {oc_l_due kV_l_due dc_l_due pm_l_due cd_l_due ct_l_due : Value}
    {f_l_same : Addr} {od_l_same an_l_same : Option Addr} {sl_l_same : Array (Option Value)} {oc_l_same kV_l_same dc_l_same pm_l_same cd_l_same ct_l_same : Value}
    {f_is_number : Addr} {od_is_number an_is_number : Option Addr} {sl_is_number : Array (Option Value)} {oc_is_number kV_is_number dc_is_number pm_is_number cd_is_number ct_is_number : Value}
    {f__are_halls : Addr} {od__are_halls an__are_halls : Option Addr} {sl__are_halls : Array (Option Value)} {oc__are_halls kV__are_halls dc__are_halls pm__are_halls cd__are_halls ct__are_halls : Value}
    {f__is_link : Addr} {od__is_link an__is_link : Option Addr} {sl__is_link : Array (Option Value)} {oc__is_link kV__is_link dc__is_link pm__is_link cd__is_link ct__is_link : Value}
    {f__are_links : Addr} {od__are_links an__are_links : Option Addr} {sl__are_links : Array (Option Value)} {oc__are_links kV__are_links dc__are_links pm__are_links cd__are_links ct__are_links : Value}
    {f_Net___init__ : Addr} {od_Net___init__ an_Net___init__ : Option Addr} {sl_Net___init__ : Array (Option Value)} {oc_Net___init__ kV_Net___init__ dc_Net___init__ pm_Net___init__ cd_Net___init__ ct_Net___init__ : Value}
    {f_Net_halls : Addr} {od_Net_halls an_Net_halls : Option Addr} {sl_Net_halls : Array (Option Value)} {oc_Net_halls kV_Net_halls dc_Net_halls pm_Net_halls cd_Net_halls ct_Net_halls : Value}
    {f_Net_links : Addr} {od_Net_links an_Net_links : Option Addr} {sl_Net_links : Array (Option Value)} {oc_Net_links kV_Net_links dc_Net_links pm_Net_links cd_Net_links ct_Net_links : Value}
    {f_Net_most : Addr} {od_Net_most an_Net_most : Option Addr} {sl_Net_most : Array (Option Value)} {oc_Net_most kV_Net_most dc_Net_most pm_Net_most cd_Net_most ct_Net_most : Value}
    {f_Net_doors : Addr} {od_Net_doors an_Net_doors : Option Addr} {sl_Net_doors : Array (Option Value)} {oc_Net_doors kV_Net_doors dc_Net_doors pm_Net_doors cd_Net_doors ct_Net_doors : Value}
    {f_Net__link : Addr} {od_Net__link an_Net__link : Option Addr} {sl_Net__link : Array (Option Value)} {oc_Net__link kV_Net__link dc_Net__link pm_Net__link cd_Net__link ct_Net__link : Value}
    {f_Net_beyond : Addr} {od_Net_beyond an_Net_beyond : Option Addr} {sl_Net_beyond : Array (Option Value)} {oc_Net_beyond kV_Net_beyond dc_Net_beyond pm_Net_beyond cd_Net_beyond ct_Net_beyond : Value}
    {f_Net_cost : Addr} {od_Net_cost an_Net_cost : Option Addr} {sl_Net_cost : Array (Option Value)} {oc_Net_cost kV_Net_cost dc_Net_cost pm_Net_cost cd_Net_cost ct_Net_cost : Value}
    {f_Net_ends : Addr} {od_Net_ends an_Net_ends : Option Addr} {sl_Net_ends : Array (Option Value)} {oc_Net_ends kV_Net_ends dc_Net_ends pm_Net_ends cd_Net_ends ct_Net_ends : Value}
    {f_Post___init__ : Addr} {od_Post___init__ an_Post___init__ : Option Addr} {sl_Post___init__ : Array (Option Value)} {oc_Post___init__ kV_Post___init__ dc_Post___init__ pm_Post___init__ cd_Post___init__ ct_Post___init__ : Value}
    {f_Post___len__ : Addr} {od_Post___len__ an_Post___len__ : Option Addr} {sl_Post___len__ : Array (Option Value)} {oc_Post___len__ kV_Post___len__ dc_Post___len__ pm_Post___len__ cd_Post___len__ ct_Post___len__ : Value}
    {f_Post_send : Addr} {od_Post_send an_Post_send : Option Addr} {sl_Post_send : Array (Option Value)} {oc_Post_send kV_Post_send dc_Post_send pm_Post_send cd_Post_send ct_Post_send : Value}
    {f_Post_first : Addr} {od_Post_first an_Post_first : Option Addr} {sl_Post_first : Array (Option Value)} {oc_Post_first kV_Post_first dc_Post_first pm_Post_first cd_Post_first ct_Post_first : Value}
    {f_Post_take : Addr} {od_Post_take an_Post_take : Option Addr} {sl_Post_take : Array (Option Value)} {oc_Post_take kV_Post_take dc_Post_take pm_Post_take cd_Post_take ct_Post_take : Value}
    {f_Post_waiting : Addr} {od_Post_waiting an_Post_waiting : Option Addr} {sl_Post_waiting : Array (Option Value)} {oc_Post_waiting kV_Post_waiting dc_Post_waiting pm_Post_waiting cd_Post_waiting ct_Post_waiting : Value}
    {f_Post_rows : Addr} {od_Post_rows an_Post_rows : Option Addr} {sl_Post_rows : Array (Option Value)} {oc_Post_rows kV_Post_rows dc_Post_rows pm_Post_rows cd_Post_rows ct_Post_rows : Value}
    {f_Post_twin : Addr} {od_Post_twin an_Post_twin : Option Addr} {sl_Post_twin : Array (Option Value)} {oc_Post_twin kV_Post_twin dc_Post_twin pm_Post_twin cd_Post_twin ct_Post_twin : Value}
    {f_Post__row : Addr} {od_Post__row an_Post__row : Option Addr} {sl_Post__row : Array (Option Value)} {oc_Post__row kV_Post__row dc_Post__row pm_Post__row cd_Post__row ct_Post__row : Value}
    {f_Say___init__ : Addr} {od_Say___init__ an_Say___init__ : Option Addr} {sl_Say___init__ : Array (Option Value)} {oc_Say___init__ kV_Say___init__ dc_Say___init__ pm_Say___init__ cd_Say___init__ ct_Say___init__ : Value}
    {f_Say___eq__ : Addr} {od_Say___eq__ an_Say___eq__ : Option Addr} {sl_Say___eq__ : Array (Option Value)} {oc_Say___eq__ kV_Say___eq__ dc_Say___eq__ pm_Say___eq__ cd_Say___eq__ ct_Say___eq__ : Value}
    {f_Say_told : Addr} {od_Say_told an_Say_told : Option Addr} {sl_Say_told : Array (Option Value)} {oc_Say_told kV_Say_told dc_Say_told pm_Say_told cd_Say_told ct_Say_told : Value}
    {f_Agree___init__ : Addr} {od_Agree___init__ an_Agree___init__ : Option Addr} {sl_Agree___init__ : Array (Option Value)} {oc_Agree___init__ kV_Agree___init__ dc_Agree___init__ pm_Agree___init__ cd_Agree___init__ ct_Agree___init__ : Value}
    {f_Agree___eq__ : Addr} {od_Agree___eq__ an_Agree___eq__ : Option Addr} {sl_Agree___eq__ : Array (Option Value)} {oc_Agree___eq__ kV_Agree___eq__ dc_Agree___eq__ pm_Agree___eq__ cd_Agree___eq__ ct_Agree___eq__ : Value}
    {f_Agree_told : Addr} {od_Agree_told an_Agree_told : Option Addr} {sl_Agree_told : Array (Option Value)} {oc_Agree_told kV_Agree_told dc_Agree_told pm_Agree_told cd_Agree_told ct_Agree_told : Value}
    {f_law : Addr} {od_law an_law : Option Addr} {sl_law : Array (Option Value)} {oc_law kV_law dc_law pm_law cd_law ct_law : Value}
    {t_MOST_HALLS : Tok}
    {t_MOST_LINKS : Tok}
    {t_LAST_HALL : Tok}
    {t_MOST_COST : Tok}
    (aC_Letter : PySem.W.nsIn K mainGlobals "Letter" = some (some (.ref C_Letter)))
    (pg_Letter : PySem.W.plainGet K C_Letter Str.empty = true)
    (hd_Letter : PySem.W.hasDictIn K C_Letter = true)
    (po_Letter : PySem.W.plainOver K C_Letter = true)
    (sa_Letter : PySem.W.findIn K (.ref C_Letter) "__setattr__" = some (some (.builtin "object.__setattr__")))
    (mk_Letter : PySem.W.makesIn K C_Letter = true)
    (kc_Letter : PySem.W.keepIn K (.ref C_Letter) = true)
    (aC_Say : PySem.W.nsIn K mainGlobals "Say" = some (some (.ref C_Say)))
    (pg_Say : PySem.W.plainGet K C_Say Str.empty = true)
    (hd_Say : PySem.W.hasDictIn K C_Say = true)
    (po_Say : PySem.W.plainOver K C_Say = true)
    (sa_Say : PySem.W.findIn K (.ref C_Say) "__setattr__" = some (some (.builtin "object.__setattr__")))
    (mk_Say : PySem.W.makesIn K C_Say = true)
    (kc_Say : PySem.W.keepIn K (.ref C_Say) = true)
    (aC_Agree : PySem.W.nsIn K mainGlobals "Agree" = some (some (.ref C_Agree)))
    (pg_Agree : PySem.W.plainGet K C_Agree Str.empty = true)
    (hd_Agree : PySem.W.hasDictIn K C_Agree = true)
    (po_Agree : PySem.W.plainOver K C_Agree = true)
    (sa_Agree : PySem.W.findIn K (.ref C_Agree) "__setattr__" = some (some (.builtin "object.__setattr__")))
    (mk_Agree : PySem.W.makesIn K C_Agree = true)
    (kc_Agree : PySem.W.keepIn K (.ref C_Agree) = true)
    (aC_Net : PySem.W.nsIn K mainGlobals "Net" = some (some (.ref C_Net)))
    (pg_Net : PySem.W.plainGet K C_Net Str.empty = true)
    (hd_Net : PySem.W.hasDictIn K C_Net = true)
    (po_Net : PySem.W.plainOver K C_Net = true)
    (sa_Net : PySem.W.findIn K (.ref C_Net) "__setattr__" = some (some (.builtin "object.__setattr__")))
    (mk_Net : PySem.W.makesIn K C_Net = true)
    (kc_Net : PySem.W.keepIn K (.ref C_Net) = true)
    (aC_Post : PySem.W.nsIn K mainGlobals "Post" = some (some (.ref C_Post)))
    (pg_Post : PySem.W.plainGet K C_Post Str.empty = true)
    (hd_Post : PySem.W.hasDictIn K C_Post = true)
    (po_Post : PySem.W.plainOver K C_Post = true)
    (sa_Post : PySem.W.findIn K (.ref C_Post) "__setattr__" = some (some (.builtin "object.__setattr__")))
    (mk_Post : PySem.W.makesIn K C_Post = true)
    (kc_Post : PySem.W.keepIn K (.ref C_Post) = true)
    (a_l_state : PySem.W.nsIn K mainGlobals "_law_state" = some (some (.ref f_l_state)))
    (l_l_state : K.lookup f_l_state = some ⟨oc_l_state, od_l_state, .func (PySem.W.fnOf "_law_state" "_law_state" (defArgs s_l_state) (defBody s_l_state) (defScope s_l_state) .none kV_l_state dc_l_state pm_l_state an_l_state cd_l_state ct_l_state), sl_l_state⟩)
    (c_l_state : PySem.W.codeIn K cd_l_state "_law_state" = true)
    (k_l_state : PySem.W.keepIn K (.ref f_l_state) = true)
    (a_l_draw : PySem.W.nsIn K mainGlobals "_law_draw" = some (some (.ref f_l_draw)))
    (l_l_draw : K.lookup f_l_draw = some ⟨oc_l_draw, od_l_draw, .func (PySem.W.fnOf "_law_draw" "_law_draw" (defArgs s_l_draw) (defBody s_l_draw) (defScope s_l_draw) .none kV_l_draw dc_l_draw pm_l_draw an_l_draw cd_l_draw ct_l_draw), sl_l_draw⟩)
    (c_l_draw : PySem.W.codeIn K cd_l_draw "_law_draw" = true)
    (k_l_draw : PySem.W.keepIn K (.ref f_l_draw) = true)
    (a_l_alike : PySem.W.nsIn K mainGlobals "_law_alike" = some (some (.ref f_l_alike)))
    (l_l_alike : K.lookup f_l_alike = some ⟨oc_l_alike, od_l_alike, .func (PySem.W.fnOf "_law_alike" "_law_alike" (defArgs s_l_alike) (defBody s_l_alike) (defScope s_l_alike) .none kV_l_alike dc_l_alike pm_l_alike an_l_alike cd_l_alike ct_l_alike), sl_l_alike⟩)
    (c_l_alike : PySem.W.codeIn K cd_l_alike "_law_alike" = true)
    (k_l_alike : PySem.W.keepIn K (.ref f_l_alike) = true)
    (a_l_ground : PySem.W.nsIn K mainGlobals "_law_ground" = some (some (.ref f_l_ground)))
    (l_l_ground : K.lookup f_l_ground = some ⟨oc_l_ground, od_l_ground, .func (PySem.W.fnOf "_law_ground" "_law_ground" (defArgs s_l_ground) (defBody s_l_ground) (defScope s_l_ground) .none kV_l_ground dc_l_ground pm_l_ground an_l_ground cd_l_ground ct_l_ground), sl_l_ground⟩)
    (c_l_ground : PySem.W.codeIn K cd_l_ground "_law_ground" = true)
    (k_l_ground : PySem.W.keepIn K (.ref f_l_ground) = true)
    (a_l_any_ground : PySem.W.nsIn K mainGlobals "_law_any_ground" = some (some (.ref f_l_any_ground)))
    (l_l_any_ground : K.lookup f_l_any_ground = some ⟨oc_l_any_ground, od_l_any_ground, .func (PySem.W.fnOf "_law_any_ground" "_law_any_ground" (defArgs s_l_any_ground) (defBody s_l_any_ground) (defScope s_l_any_ground) .none kV_l_any_ground dc_l_any_ground pm_l_any_ground an_l_any_ground cd_l_any_ground ct_l_any_ground), sl_l_any_ground⟩)
    (c_l_any_ground : PySem.W.codeIn K cd_l_any_ground "_law_any_ground" = true)
    (k_l_any_ground : PySem.W.keepIn K (.ref f_l_any_ground) = true)
    (a_l_beyond : PySem.W.nsIn K mainGlobals "_law_beyond" = some (some (.ref f_l_beyond)))
    (l_l_beyond : K.lookup f_l_beyond = some ⟨oc_l_beyond, od_l_beyond, .func (PySem.W.fnOf "_law_beyond" "_law_beyond" (defArgs s_l_beyond) (defBody s_l_beyond) (defScope s_l_beyond) .none kV_l_beyond dc_l_beyond pm_l_beyond an_l_beyond cd_l_beyond ct_l_beyond), sl_l_beyond⟩)
    (c_l_beyond : PySem.W.codeIn K cd_l_beyond "_law_beyond" = true)
    (k_l_beyond : PySem.W.keepIn K (.ref f_l_beyond) = true)
    (a_l_letter : PySem.W.nsIn K mainGlobals "_law_letter" = some (some (.ref f_l_letter)))
    (l_l_letter : K.lookup f_l_letter = some ⟨oc_l_letter, od_l_letter, .func (PySem.W.fnOf "_law_letter" "_law_letter" (defArgs s_l_letter) (defBody s_l_letter) (defScope s_l_letter) .none kV_l_letter dc_l_letter pm_l_letter an_l_letter cd_l_letter ct_l_letter), sl_l_letter⟩)
    (c_l_letter : PySem.W.codeIn K cd_l_letter "_law_letter" = true)
    (k_l_letter : PySem.W.keepIn K (.ref f_l_letter) = true)
    (a_l_made : PySem.W.nsIn K mainGlobals "_law_made" = some (some (.ref f_l_made)))
    (l_l_made : K.lookup f_l_made = some ⟨oc_l_made, od_l_made, .func (PySem.W.fnOf "_law_made" "_law_made" (defArgs s_l_made) (defBody s_l_made) (defScope s_l_made) .none kV_l_made dc_l_made pm_l_made an_l_made cd_l_made ct_l_made), sl_l_made⟩)
    (c_l_made : PySem.W.codeIn K cd_l_made "_law_made" = true)
    (k_l_made : PySem.W.keepIn K (.ref f_l_made) = true)
    (a_l_stands : PySem.W.nsIn K mainGlobals "_law_stands" = some (some (.ref f_l_stands)))
    (l_l_stands : K.lookup f_l_stands = some ⟨oc_l_stands, od_l_stands, .func (PySem.W.fnOf "_law_stands" "_law_stands" (defArgs s_l_stands) (defBody s_l_stands) (defScope s_l_stands) .none kV_l_stands dc_l_stands pm_l_stands an_l_stands cd_l_stands ct_l_stands), sl_l_stands⟩)
    (c_l_stands : PySem.W.codeIn K cd_l_stands "_law_stands" = true)
    (k_l_stands : PySem.W.keepIn K (.ref f_l_stands) = true)
    (a_l_row : PySem.W.nsIn K mainGlobals "_law_row" = some (some (.ref f_l_row)))
    (l_l_row : K.lookup f_l_row = some ⟨oc_l_row, od_l_row, .func (PySem.W.fnOf "_law_row" "_law_row" (defArgs s_l_row) (defBody s_l_row) (defScope s_l_row) .none kV_l_row dc_l_row pm_l_row an_l_row cd_l_row ct_l_row), sl_l_row⟩)
    (c_l_row : PySem.W.codeIn K cd_l_row "_law_row" = true)
    (k_l_row : PySem.W.keepIn K (.ref f_l_row) = true)
    (a_l_order : PySem.W.nsIn K mainGlobals "_law_order" = some (some (.ref f_l_order)))
    (l_l_order : K.lookup f_l_order = some ⟨oc_l_order, od_l_order, .func (PySem.W.fnOf "_law_order" "_law_order" (defArgs s_l_order) (defBody s_l_order) (defScope s_l_order) .none kV_l_order dc_l_order pm_l_order an_l_order cd_l_order ct_l_order), sl_l_order⟩)
    (c_l_order : PySem.W.codeIn K cd_l_order "_law_order" = true)
    (k_l_order : PySem.W.keepIn K (.ref f_l_order) = true)
    (a_l_done : PySem.W.nsIn K mainGlobals "_law_done" = some (some (.ref f_l_done)))
    (l_l_done : K.lookup f_l_done = some ⟨oc_l_done, od_l_done, .func (PySem.W.fnOf "_law_done" "_law_done" (defArgs s_l_done) (defBody s_l_done) (defScope s_l_done) .none kV_l_done dc_l_done pm_l_done an_l_done cd_l_done ct_l_done), sl_l_done⟩)
    (c_l_done : PySem.W.codeIn K cd_l_done "_law_done" = true)
    (k_l_done : PySem.W.keepIn K (.ref f_l_done) = true)
    (a_l_due : PySem.W.nsIn K mainGlobals "_law_due" = some (some (.ref f_l_due)))
    (l_l_due : K.lookup f_l_due = some ⟨oc_l_due, od_l_due, .func (PySem.W.fnOf "_law_due" "_law_due" (defArgs s_l_due) (defBody s_l_due) (defScope s_l_due) .none kV_l_due dc_l_due pm_l_due an_l_due cd_l_due ct_l_due), sl_l_due⟩)
    (c_l_due : PySem.W.codeIn K cd_l_due "_law_due" = true)
    (k_l_due : PySem.W.keepIn K (.ref f_l_due) = true)
    (a_l_same : PySem.W.nsIn K mainGlobals "_law_same" = some (some (.ref f_l_same)))
    (l_l_same : K.lookup f_l_same = some ⟨oc_l_same, od_l_same, .func (PySem.W.fnOf "_law_same" "_law_same" (defArgs s_l_same) (defBody s_l_same) (defScope s_l_same) .none kV_l_same dc_l_same pm_l_same an_l_same cd_l_same ct_l_same), sl_l_same⟩)
    (c_l_same : PySem.W.codeIn K cd_l_same "_law_same" = true)
    (k_l_same : PySem.W.keepIn K (.ref f_l_same) = true)
    (a_is_number : PySem.W.nsIn K mainGlobals "is_number" = some (some (.ref f_is_number)))
    (l_is_number : K.lookup f_is_number = some ⟨oc_is_number, od_is_number, .func (PySem.W.fnOf "is_number" "is_number" (defArgs s_is_number) (defBody s_is_number) (defScope s_is_number) .none kV_is_number dc_is_number pm_is_number an_is_number cd_is_number ct_is_number), sl_is_number⟩)
    (c_is_number : PySem.W.codeIn K cd_is_number "is_number" = true)
    (k_is_number : PySem.W.keepIn K (.ref f_is_number) = true)
    (a__are_halls : PySem.W.nsIn K mainGlobals "_are_halls" = some (some (.ref f__are_halls)))
    (l__are_halls : K.lookup f__are_halls = some ⟨oc__are_halls, od__are_halls, .func (PySem.W.fnOf "_are_halls" "_are_halls" (defArgs s__are_halls) (defBody s__are_halls) (defScope s__are_halls) .none kV__are_halls dc__are_halls pm__are_halls an__are_halls cd__are_halls ct__are_halls), sl__are_halls⟩)
    (c__are_halls : PySem.W.codeIn K cd__are_halls "_are_halls" = true)
    (k__are_halls : PySem.W.keepIn K (.ref f__are_halls) = true)
    (a__is_link : PySem.W.nsIn K mainGlobals "_is_link" = some (some (.ref f__is_link)))
    (l__is_link : K.lookup f__is_link = some ⟨oc__is_link, od__is_link, .func (PySem.W.fnOf "_is_link" "_is_link" (defArgs s__is_link) (defBody s__is_link) (defScope s__is_link) .none kV__is_link dc__is_link pm__is_link an__is_link cd__is_link ct__is_link), sl__is_link⟩)
    (c__is_link : PySem.W.codeIn K cd__is_link "_is_link" = true)
    (k__is_link : PySem.W.keepIn K (.ref f__is_link) = true)
    (a__are_links : PySem.W.nsIn K mainGlobals "_are_links" = some (some (.ref f__are_links)))
    (l__are_links : K.lookup f__are_links = some ⟨oc__are_links, od__are_links, .func (PySem.W.fnOf "_are_links" "_are_links" (defArgs s__are_links) (defBody s__are_links) (defScope s__are_links) .none kV__are_links dc__are_links pm__are_links an__are_links cd__are_links ct__are_links), sl__are_links⟩)
    (c__are_links : PySem.W.codeIn K cd__are_links "_are_links" = true)
    (k__are_links : PySem.W.keepIn K (.ref f__are_links) = true)
    (a_Net___init__ : PySem.W.findIn K (.ref C_Net) "__init__" = some (some (.ref f_Net___init__)))
    (i_Net___init__ : PySem.W.isFn K (.ref f_Net___init__) = true)
    (l_Net___init__ : K.lookup f_Net___init__ = some ⟨oc_Net___init__, od_Net___init__, .func (PySem.W.fnOf "__init__" "Net.__init__" (defArgs s_Net___init__) (defBody s_Net___init__) (defScope s_Net___init__) .none kV_Net___init__ dc_Net___init__ pm_Net___init__ an_Net___init__ cd_Net___init__ ct_Net___init__), sl_Net___init__⟩)
    (c_Net___init__ : PySem.W.codeIn K cd_Net___init__ "Net.__init__" = true)
    (k_Net___init__ : PySem.W.keepIn K (.ref f_Net___init__) = true)
    (a_Net_halls : PySem.W.findIn K (.ref C_Net) "halls" = some (some (.ref f_Net_halls)))
    (i_Net_halls : PySem.W.isFn K (.ref f_Net_halls) = true)
    (l_Net_halls : K.lookup f_Net_halls = some ⟨oc_Net_halls, od_Net_halls, .func (PySem.W.fnOf "halls" "Net.halls" (defArgs s_Net_halls) (defBody s_Net_halls) (defScope s_Net_halls) .none kV_Net_halls dc_Net_halls pm_Net_halls an_Net_halls cd_Net_halls ct_Net_halls), sl_Net_halls⟩)
    (c_Net_halls : PySem.W.codeIn K cd_Net_halls "Net.halls" = true)
    (k_Net_halls : PySem.W.keepIn K (.ref f_Net_halls) = true)
    (a_Net_links : PySem.W.findIn K (.ref C_Net) "links" = some (some (.ref f_Net_links)))
    (i_Net_links : PySem.W.isFn K (.ref f_Net_links) = true)
    (l_Net_links : K.lookup f_Net_links = some ⟨oc_Net_links, od_Net_links, .func (PySem.W.fnOf "links" "Net.links" (defArgs s_Net_links) (defBody s_Net_links) (defScope s_Net_links) .none kV_Net_links dc_Net_links pm_Net_links an_Net_links cd_Net_links ct_Net_links), sl_Net_links⟩)
    (c_Net_links : PySem.W.codeIn K cd_Net_links "Net.links" = true)
    (k_Net_links : PySem.W.keepIn K (.ref f_Net_links) = true)
    (a_Net_most : PySem.W.findIn K (.ref C_Net) "most" = some (some (.ref f_Net_most)))
    (i_Net_most : PySem.W.isFn K (.ref f_Net_most) = true)
    (l_Net_most : K.lookup f_Net_most = some ⟨oc_Net_most, od_Net_most, .func (PySem.W.fnOf "most" "Net.most" (defArgs s_Net_most) (defBody s_Net_most) (defScope s_Net_most) .none kV_Net_most dc_Net_most pm_Net_most an_Net_most cd_Net_most ct_Net_most), sl_Net_most⟩)
    (c_Net_most : PySem.W.codeIn K cd_Net_most "Net.most" = true)
    (k_Net_most : PySem.W.keepIn K (.ref f_Net_most) = true)
    (a_Net_doors : PySem.W.findIn K (.ref C_Net) "doors" = some (some (.ref f_Net_doors)))
    (i_Net_doors : PySem.W.isFn K (.ref f_Net_doors) = true)
    (l_Net_doors : K.lookup f_Net_doors = some ⟨oc_Net_doors, od_Net_doors, .func (PySem.W.fnOf "doors" "Net.doors" (defArgs s_Net_doors) (defBody s_Net_doors) (defScope s_Net_doors) .none kV_Net_doors dc_Net_doors pm_Net_doors an_Net_doors cd_Net_doors ct_Net_doors), sl_Net_doors⟩)
    (c_Net_doors : PySem.W.codeIn K cd_Net_doors "Net.doors" = true)
    (k_Net_doors : PySem.W.keepIn K (.ref f_Net_doors) = true)
    (a_Net__link : PySem.W.findIn K (.ref C_Net) "_link" = some (some (.ref f_Net__link)))
    (i_Net__link : PySem.W.isFn K (.ref f_Net__link) = true)
    (l_Net__link : K.lookup f_Net__link = some ⟨oc_Net__link, od_Net__link, .func (PySem.W.fnOf "_link" "Net._link" (defArgs s_Net__link) (defBody s_Net__link) (defScope s_Net__link) .none kV_Net__link dc_Net__link pm_Net__link an_Net__link cd_Net__link ct_Net__link), sl_Net__link⟩)
    (c_Net__link : PySem.W.codeIn K cd_Net__link "Net._link" = true)
    (k_Net__link : PySem.W.keepIn K (.ref f_Net__link) = true)
    (a_Net_beyond : PySem.W.findIn K (.ref C_Net) "beyond" = some (some (.ref f_Net_beyond)))
    (i_Net_beyond : PySem.W.isFn K (.ref f_Net_beyond) = true)
    (l_Net_beyond : K.lookup f_Net_beyond = some ⟨oc_Net_beyond, od_Net_beyond, .func (PySem.W.fnOf "beyond" "Net.beyond" (defArgs s_Net_beyond) (defBody s_Net_beyond) (defScope s_Net_beyond) .none kV_Net_beyond dc_Net_beyond pm_Net_beyond an_Net_beyond cd_Net_beyond ct_Net_beyond), sl_Net_beyond⟩)
    (c_Net_beyond : PySem.W.codeIn K cd_Net_beyond "Net.beyond" = true)
    (k_Net_beyond : PySem.W.keepIn K (.ref f_Net_beyond) = true)
    (a_Net_cost : PySem.W.findIn K (.ref C_Net) "cost" = some (some (.ref f_Net_cost)))
    (i_Net_cost : PySem.W.isFn K (.ref f_Net_cost) = true)
    (l_Net_cost : K.lookup f_Net_cost = some ⟨oc_Net_cost, od_Net_cost, .func (PySem.W.fnOf "cost" "Net.cost" (defArgs s_Net_cost) (defBody s_Net_cost) (defScope s_Net_cost) .none kV_Net_cost dc_Net_cost pm_Net_cost an_Net_cost cd_Net_cost ct_Net_cost), sl_Net_cost⟩)
    (c_Net_cost : PySem.W.codeIn K cd_Net_cost "Net.cost" = true)
    (k_Net_cost : PySem.W.keepIn K (.ref f_Net_cost) = true)
    (a_Net_ends : PySem.W.findIn K (.ref C_Net) "ends" = some (some (.ref f_Net_ends)))
    (i_Net_ends : PySem.W.isFn K (.ref f_Net_ends) = true)
    (l_Net_ends : K.lookup f_Net_ends = some ⟨oc_Net_ends, od_Net_ends, .func (PySem.W.fnOf "ends" "Net.ends" (defArgs s_Net_ends) (defBody s_Net_ends) (defScope s_Net_ends) .none kV_Net_ends dc_Net_ends pm_Net_ends an_Net_ends cd_Net_ends ct_Net_ends), sl_Net_ends⟩)
    (c_Net_ends : PySem.W.codeIn K cd_Net_ends "Net.ends" = true)
    (k_Net_ends : PySem.W.keepIn K (.ref f_Net_ends) = true)
    (a_Post___init__ : PySem.W.findIn K (.ref C_Post) "__init__" = some (some (.ref f_Post___init__)))
    (i_Post___init__ : PySem.W.isFn K (.ref f_Post___init__) = true)
    (l_Post___init__ : K.lookup f_Post___init__ = some ⟨oc_Post___init__, od_Post___init__, .func (PySem.W.fnOf "__init__" "Post.__init__" (defArgs s_Post___init__) (defBody s_Post___init__) (defScope s_Post___init__) .none kV_Post___init__ dc_Post___init__ pm_Post___init__ an_Post___init__ cd_Post___init__ ct_Post___init__), sl_Post___init__⟩)
    (c_Post___init__ : PySem.W.codeIn K cd_Post___init__ "Post.__init__" = true)
    (k_Post___init__ : PySem.W.keepIn K (.ref f_Post___init__) = true)
    (a_Post___len__ : PySem.W.findIn K (.ref C_Post) "__len__" = some (some (.ref f_Post___len__)))
    (i_Post___len__ : PySem.W.isFn K (.ref f_Post___len__) = true)
    (l_Post___len__ : K.lookup f_Post___len__ = some ⟨oc_Post___len__, od_Post___len__, .func (PySem.W.fnOf "__len__" "Post.__len__" (defArgs s_Post___len__) (defBody s_Post___len__) (defScope s_Post___len__) .none kV_Post___len__ dc_Post___len__ pm_Post___len__ an_Post___len__ cd_Post___len__ ct_Post___len__), sl_Post___len__⟩)
    (c_Post___len__ : PySem.W.codeIn K cd_Post___len__ "Post.__len__" = true)
    (k_Post___len__ : PySem.W.keepIn K (.ref f_Post___len__) = true)
    (a_Post_send : PySem.W.findIn K (.ref C_Post) "send" = some (some (.ref f_Post_send)))
    (i_Post_send : PySem.W.isFn K (.ref f_Post_send) = true)
    (l_Post_send : K.lookup f_Post_send = some ⟨oc_Post_send, od_Post_send, .func (PySem.W.fnOf "send" "Post.send" (defArgs s_Post_send) (defBody s_Post_send) (defScope s_Post_send) .none kV_Post_send dc_Post_send pm_Post_send an_Post_send cd_Post_send ct_Post_send), sl_Post_send⟩)
    (c_Post_send : PySem.W.codeIn K cd_Post_send "Post.send" = true)
    (k_Post_send : PySem.W.keepIn K (.ref f_Post_send) = true)
    (a_Post_first : PySem.W.findIn K (.ref C_Post) "first" = some (some (.ref f_Post_first)))
    (i_Post_first : PySem.W.isFn K (.ref f_Post_first) = true)
    (l_Post_first : K.lookup f_Post_first = some ⟨oc_Post_first, od_Post_first, .func (PySem.W.fnOf "first" "Post.first" (defArgs s_Post_first) (defBody s_Post_first) (defScope s_Post_first) .none kV_Post_first dc_Post_first pm_Post_first an_Post_first cd_Post_first ct_Post_first), sl_Post_first⟩)
    (c_Post_first : PySem.W.codeIn K cd_Post_first "Post.first" = true)
    (k_Post_first : PySem.W.keepIn K (.ref f_Post_first) = true)
    (a_Post_take : PySem.W.findIn K (.ref C_Post) "take" = some (some (.ref f_Post_take)))
    (i_Post_take : PySem.W.isFn K (.ref f_Post_take) = true)
    (l_Post_take : K.lookup f_Post_take = some ⟨oc_Post_take, od_Post_take, .func (PySem.W.fnOf "take" "Post.take" (defArgs s_Post_take) (defBody s_Post_take) (defScope s_Post_take) .none kV_Post_take dc_Post_take pm_Post_take an_Post_take cd_Post_take ct_Post_take), sl_Post_take⟩)
    (c_Post_take : PySem.W.codeIn K cd_Post_take "Post.take" = true)
    (k_Post_take : PySem.W.keepIn K (.ref f_Post_take) = true)
    (a_Post_waiting : PySem.W.findIn K (.ref C_Post) "waiting" = some (some (.ref f_Post_waiting)))
    (i_Post_waiting : PySem.W.isFn K (.ref f_Post_waiting) = true)
    (l_Post_waiting : K.lookup f_Post_waiting = some ⟨oc_Post_waiting, od_Post_waiting, .func (PySem.W.fnOf "waiting" "Post.waiting" (defArgs s_Post_waiting) (defBody s_Post_waiting) (defScope s_Post_waiting) .none kV_Post_waiting dc_Post_waiting pm_Post_waiting an_Post_waiting cd_Post_waiting ct_Post_waiting), sl_Post_waiting⟩)
    (c_Post_waiting : PySem.W.codeIn K cd_Post_waiting "Post.waiting" = true)
    (k_Post_waiting : PySem.W.keepIn K (.ref f_Post_waiting) = true)
    (a_Post_rows : PySem.W.findIn K (.ref C_Post) "rows" = some (some (.ref f_Post_rows)))
    (i_Post_rows : PySem.W.isFn K (.ref f_Post_rows) = true)
    (l_Post_rows : K.lookup f_Post_rows = some ⟨oc_Post_rows, od_Post_rows, .func (PySem.W.fnOf "rows" "Post.rows" (defArgs s_Post_rows) (defBody s_Post_rows) (defScope s_Post_rows) .none kV_Post_rows dc_Post_rows pm_Post_rows an_Post_rows cd_Post_rows ct_Post_rows), sl_Post_rows⟩)
    (c_Post_rows : PySem.W.codeIn K cd_Post_rows "Post.rows" = true)
    (k_Post_rows : PySem.W.keepIn K (.ref f_Post_rows) = true)
    (a_Post_twin : PySem.W.findIn K (.ref C_Post) "twin" = some (some (.ref f_Post_twin)))
    (i_Post_twin : PySem.W.isFn K (.ref f_Post_twin) = true)
    (l_Post_twin : K.lookup f_Post_twin = some ⟨oc_Post_twin, od_Post_twin, .func (PySem.W.fnOf "twin" "Post.twin" (defArgs s_Post_twin) (defBody s_Post_twin) (defScope s_Post_twin) .none kV_Post_twin dc_Post_twin pm_Post_twin an_Post_twin cd_Post_twin ct_Post_twin), sl_Post_twin⟩)
    (c_Post_twin : PySem.W.codeIn K cd_Post_twin "Post.twin" = true)
    (k_Post_twin : PySem.W.keepIn K (.ref f_Post_twin) = true)
    (a_Post__row : PySem.W.findIn K (.ref C_Post) "_row" = some (some (.ref f_Post__row)))
    (i_Post__row : PySem.W.isFn K (.ref f_Post__row) = true)
    (l_Post__row : K.lookup f_Post__row = some ⟨oc_Post__row, od_Post__row, .func (PySem.W.fnOf "_row" "Post._row" (defArgs s_Post__row) (defBody s_Post__row) (defScope s_Post__row) .none kV_Post__row dc_Post__row pm_Post__row an_Post__row cd_Post__row ct_Post__row), sl_Post__row⟩)
    (c_Post__row : PySem.W.codeIn K cd_Post__row "Post._row" = true)
    (k_Post__row : PySem.W.keepIn K (.ref f_Post__row) = true)
    (a_Say___init__ : PySem.W.findIn K (.ref C_Say) "__init__" = some (some (.ref f_Say___init__)))
    (i_Say___init__ : PySem.W.isFn K (.ref f_Say___init__) = true)
    (l_Say___init__ : K.lookup f_Say___init__ = some ⟨oc_Say___init__, od_Say___init__, .func (PySem.W.fnOf "__init__" "Say.__init__" (defArgs s_Say___init__) (defBody s_Say___init__) (defScope s_Say___init__) .none kV_Say___init__ dc_Say___init__ pm_Say___init__ an_Say___init__ cd_Say___init__ ct_Say___init__), sl_Say___init__⟩)
    (c_Say___init__ : PySem.W.codeIn K cd_Say___init__ "Say.__init__" = true)
    (k_Say___init__ : PySem.W.keepIn K (.ref f_Say___init__) = true)
    (a_Say___eq__ : PySem.W.findIn K (.ref C_Say) "__eq__" = some (some (.ref f_Say___eq__)))
    (i_Say___eq__ : PySem.W.isFn K (.ref f_Say___eq__) = true)
    (l_Say___eq__ : K.lookup f_Say___eq__ = some ⟨oc_Say___eq__, od_Say___eq__, .func (PySem.W.fnOf "__eq__" "Say.__eq__" (defArgs s_Say___eq__) (defBody s_Say___eq__) (defScope s_Say___eq__) .none kV_Say___eq__ dc_Say___eq__ pm_Say___eq__ an_Say___eq__ cd_Say___eq__ ct_Say___eq__), sl_Say___eq__⟩)
    (c_Say___eq__ : PySem.W.codeIn K cd_Say___eq__ "Say.__eq__" = true)
    (k_Say___eq__ : PySem.W.keepIn K (.ref f_Say___eq__) = true)
    (a_Say_told : PySem.W.findIn K (.ref C_Say) "told" = some (some (.ref f_Say_told)))
    (i_Say_told : PySem.W.isFn K (.ref f_Say_told) = true)
    (l_Say_told : K.lookup f_Say_told = some ⟨oc_Say_told, od_Say_told, .func (PySem.W.fnOf "told" "Say.told" (defArgs s_Say_told) (defBody s_Say_told) (defScope s_Say_told) .none kV_Say_told dc_Say_told pm_Say_told an_Say_told cd_Say_told ct_Say_told), sl_Say_told⟩)
    (c_Say_told : PySem.W.codeIn K cd_Say_told "Say.told" = true)
    (k_Say_told : PySem.W.keepIn K (.ref f_Say_told) = true)
    (a_Agree___init__ : PySem.W.findIn K (.ref C_Agree) "__init__" = some (some (.ref f_Agree___init__)))
    (i_Agree___init__ : PySem.W.isFn K (.ref f_Agree___init__) = true)
    (l_Agree___init__ : K.lookup f_Agree___init__ = some ⟨oc_Agree___init__, od_Agree___init__, .func (PySem.W.fnOf "__init__" "Agree.__init__" (defArgs s_Agree___init__) (defBody s_Agree___init__) (defScope s_Agree___init__) .none kV_Agree___init__ dc_Agree___init__ pm_Agree___init__ an_Agree___init__ cd_Agree___init__ ct_Agree___init__), sl_Agree___init__⟩)
    (c_Agree___init__ : PySem.W.codeIn K cd_Agree___init__ "Agree.__init__" = true)
    (k_Agree___init__ : PySem.W.keepIn K (.ref f_Agree___init__) = true)
    (a_Agree___eq__ : PySem.W.findIn K (.ref C_Agree) "__eq__" = some (some (.ref f_Agree___eq__)))
    (i_Agree___eq__ : PySem.W.isFn K (.ref f_Agree___eq__) = true)
    (l_Agree___eq__ : K.lookup f_Agree___eq__ = some ⟨oc_Agree___eq__, od_Agree___eq__, .func (PySem.W.fnOf "__eq__" "Agree.__eq__" (defArgs s_Agree___eq__) (defBody s_Agree___eq__) (defScope s_Agree___eq__) .none kV_Agree___eq__ dc_Agree___eq__ pm_Agree___eq__ an_Agree___eq__ cd_Agree___eq__ ct_Agree___eq__), sl_Agree___eq__⟩)
    (c_Agree___eq__ : PySem.W.codeIn K cd_Agree___eq__ "Agree.__eq__" = true)
    (k_Agree___eq__ : PySem.W.keepIn K (.ref f_Agree___eq__) = true)
    (a_Agree_told : PySem.W.findIn K (.ref C_Agree) "told" = some (some (.ref f_Agree_told)))
    (i_Agree_told : PySem.W.isFn K (.ref f_Agree_told) = true)
    (l_Agree_told : K.lookup f_Agree_told = some ⟨oc_Agree_told, od_Agree_told, .func (PySem.W.fnOf "told" "Agree.told" (defArgs s_Agree_told) (defBody s_Agree_told) (defScope s_Agree_told) .none kV_Agree_told dc_Agree_told pm_Agree_told an_Agree_told cd_Agree_told ct_Agree_told), sl_Agree_told⟩)
    (c_Agree_told : PySem.W.codeIn K cd_Agree_told "Agree.told" = true)
    (k_Agree_told : PySem.W.keepIn K (.ref f_Agree_told) = true)
    (a_law : PySem.W.nsIn K mainGlobals "law" = some (some (.ref f_law)))
    (l_law : K.lookup f_law = some ⟨oc_law, od_law, .func (PySem.W.fnOf "law" "law" (defArgs s_law) (defBody s_law) (defScope s_law) .none kV_law dc_law pm_law an_law cd_law ct_law), sl_law⟩)
    (c_law : PySem.W.codeIn K cd_law "law" = true)
    (k_law : PySem.W.keepIn K (.ref f_law) = true)
    (en_Say : PySem.W.findIn K (.ref C_Say) "__ne__" = some (some (.builtin "object.__ne__")))
    (eo_Say : PySem.W.subIn K (.ref C_Say) (.type "object") = some true)
    (es_Say_NoneType : PySem.W.subIn K (.ref C_Say) (.type "NoneType") = some false)
    (es_Say_bool : PySem.W.subIn K (.ref C_Say) (.type "bool") = some false)
    (es_Say_int : PySem.W.subIn K (.ref C_Say) (.type "int") = some false)
    (es_Say_str : PySem.W.subIn K (.ref C_Say) (.type "str") = some false)
    (es_Say_list : PySem.W.subIn K (.ref C_Say) (.type "list") = some false)
    (es_Say_tuple : PySem.W.subIn K (.ref C_Say) (.type "tuple") = some false)
    (es_Say_dict : PySem.W.subIn K (.ref C_Say) (.type "dict") = some false)
    (qc_Say : PySem.W.findIn K (.ref C_Say) "__class__" = some (some (.builtin "object.__class__")))
    (qg_Say : PySem.W.specialIn K (.builtin "object.__class__") "__get__" = some (some (.builtin "getset_descriptor.__get__")))
    (qt_Say : PySem.W.takesIn K (.builtin "object.__class__") = some true)
    (qm_Say : PySem.W.mroIn K C_Say (.type "object") = some true)
    (qk_Say_NoneType : PySem.W.kitOne K (.type "NoneType") (.ref C_Say) = some false)
    (qk_Say_bool : PySem.W.kitOne K (.type "bool") (.ref C_Say) = some false)
    (qk_Say_int : PySem.W.kitOne K (.type "int") (.ref C_Say) = some false)
    (qk_Say_str : PySem.W.kitOne K (.type "str") (.ref C_Say) = some false)
    (qk_Say_list : PySem.W.kitOne K (.type "list") (.ref C_Say) = some false)
    (qk_Say_tuple : PySem.W.kitOne K (.type "tuple") (.ref C_Say) = some false)
    (qk_Say_dict : PySem.W.kitOne K (.type "dict") (.ref C_Say) = some false)
    (en_Agree : PySem.W.findIn K (.ref C_Agree) "__ne__" = some (some (.builtin "object.__ne__")))
    (eo_Agree : PySem.W.subIn K (.ref C_Agree) (.type "object") = some true)
    (es_Agree_NoneType : PySem.W.subIn K (.ref C_Agree) (.type "NoneType") = some false)
    (es_Agree_bool : PySem.W.subIn K (.ref C_Agree) (.type "bool") = some false)
    (es_Agree_int : PySem.W.subIn K (.ref C_Agree) (.type "int") = some false)
    (es_Agree_str : PySem.W.subIn K (.ref C_Agree) (.type "str") = some false)
    (es_Agree_list : PySem.W.subIn K (.ref C_Agree) (.type "list") = some false)
    (es_Agree_tuple : PySem.W.subIn K (.ref C_Agree) (.type "tuple") = some false)
    (es_Agree_dict : PySem.W.subIn K (.ref C_Agree) (.type "dict") = some false)
    (qc_Agree : PySem.W.findIn K (.ref C_Agree) "__class__" = some (some (.builtin "object.__class__")))
    (qg_Agree : PySem.W.specialIn K (.builtin "object.__class__") "__get__" = some (some (.builtin "getset_descriptor.__get__")))
    (qt_Agree : PySem.W.takesIn K (.builtin "object.__class__") = some true)
    (qm_Agree : PySem.W.mroIn K C_Agree (.type "object") = some true)
    (qk_Agree_NoneType : PySem.W.kitOne K (.type "NoneType") (.ref C_Agree) = some false)
    (qk_Agree_bool : PySem.W.kitOne K (.type "bool") (.ref C_Agree) = some false)
    (qk_Agree_int : PySem.W.kitOne K (.type "int") (.ref C_Agree) = some false)
    (qk_Agree_str : PySem.W.kitOne K (.type "str") (.ref C_Agree) = some false)
    (qk_Agree_list : PySem.W.kitOne K (.type "list") (.ref C_Agree) = some false)
    (qk_Agree_tuple : PySem.W.kitOne K (.type "tuple") (.ref C_Agree) = some false)
    (qk_Agree_dict : PySem.W.kitOne K (.type "dict") (.ref C_Agree) = some false)
    (kt_Say_Letter : PySem.W.kitOne K (.ref C_Say) (.ref C_Letter) = some true)
    (kt_Agree_Letter : PySem.W.kitOne K (.ref C_Agree) (.ref C_Letter) = some true)
    (kt_Say_Agree : PySem.W.kitOne K (.ref C_Say) (.ref C_Agree) = some false)
    (kt_Agree_Say : PySem.W.kitOne K (.ref C_Agree) (.ref C_Say) = some false)
    (sb_Say_Agree : PySem.W.subIn K (.ref C_Agree) (.ref C_Say) = some false)
    (sb_Agree_Say : PySem.W.subIn K (.ref C_Say) (.ref C_Agree) = some false)
    (na_Say_number : PySem.W.findIn K (.ref C_Say) "number" = some none)
    (na_Say_root : PySem.W.findIn K (.ref C_Say) "root" = some none)
    (na_Say_far : PySem.W.findIn K (.ref C_Say) "far" = some none)
    (na_Agree_number : PySem.W.findIn K (.ref C_Agree) "number" = some none)
    (na_Net__handed : PySem.W.findIn K (.ref C_Net) "_handed" = some none)
    (na_Net__rising : PySem.W.findIn K (.ref C_Net) "_rising" = some none)
    (na_Net__links : PySem.W.findIn K (.ref C_Net) "_links" = some none)
    (na_Post__net : PySem.W.findIn K (.ref C_Post) "_net" = some none)
    (na_Post__rows : PySem.W.findIn K (.ref C_Post) "_rows" = some none)
    (z_abs : PySem.W.nsIn K mainGlobals "abs" = some none)
    (z_len : PySem.W.nsIn K mainGlobals "len" = some none)
    (z_range : PySem.W.nsIn K mainGlobals "range" = some none)
    (z_list : PySem.W.nsIn K mainGlobals "list" = some none)
    (z_all : PySem.W.nsIn K mainGlobals "all" = some none)
    (z_isinstance : PySem.W.nsIn K mainGlobals "isinstance" = some none)
    (z_tuple : PySem.W.nsIn K mainGlobals "tuple" = some none)
    (z_int : PySem.W.nsIn K mainGlobals "int" = some none)
    (z_bool : PySem.W.nsIn K mainGlobals "bool" = some none)
    (z_str : PySem.W.nsIn K mainGlobals "str" = some none)
    (z_sorted : PySem.W.nsIn K mainGlobals "sorted" = some none)
    (z_dict : PySem.W.nsIn K mainGlobals "dict" = some none)
    (z_sum : PySem.W.nsIn K mainGlobals "sum" = some none)
    (z_set : PySem.W.nsIn K mainGlobals "set" = some none)
    (z_enumerate : PySem.W.nsIn K mainGlobals "enumerate" = some none)
    (v_MOST_HALLS : PySem.W.nsIn K mainGlobals "MOST_HALLS" = some (some (.int (8) t_MOST_HALLS)))
    (v_MOST_LINKS : PySem.W.nsIn K mainGlobals "MOST_LINKS" = some (some (.int (12) t_MOST_LINKS)))
    (v_LAST_HALL : PySem.W.nsIn K mainGlobals "LAST_HALL" = some (some (.int (999) t_LAST_HALL)))
    (v_MOST_COST : PySem.W.nsIn K mainGlobals "MOST_COST" = some (some (.int (30) t_MOST_COST))) :
    ∃ fd : FuncData, (∀ (s : Shared) (v : Value), BindsTo s fd ⟨[v], []⟩ [("_law_script", v)]) ∧ ∀ base : Heap, K.In base → base.Ns mainGlobals mg → FnOkG l.prog w K mg base CX0 9 fa fd ["_law_script"] (sp_law K) := by
  have e := hfa.symm.trans (PySem.W.mg_of X G a_law)
  cases e
  have F_l_state := fun_mk (st := s_l_state) l_l_state c_l_state k_l_state
  have b_l_state := F_l_state.binds (ps := ["_law_script"]) fun _ _ _ _ _ _ us hl => match us, hl with | [_], _ => rfl
  have F_l_draw := fun_mk (st := s_l_draw) l_l_draw c_l_draw k_l_draw
  have b_l_draw := F_l_draw.binds (ps := ["_law_state_here", "_law_many"]) fun _ _ _ _ _ _ us hl => match us, hl with | [_, _], _ => rfl
  have F_l_alike := fun_mk (st := s_l_alike) l_l_alike c_l_alike k_l_alike
  have b_l_alike := F_l_alike.binds (ps := ["_law_one", "_law_other"]) fun _ _ _ _ _ _ us hl => match us, hl with | [_, _], _ => rfl
  have F_l_ground := fun_mk (st := s_l_ground) l_l_ground c_l_ground k_l_ground
  have b_l_ground := F_l_ground.binds (ps := ["_law_state_here", "_law_most_halls", "_law_most_links"]) fun _ _ _ _ _ _ us hl => match us, hl with | [_, _, _], _ => rfl
  have F_l_any_ground := fun_mk (st := s_l_any_ground) l_l_any_ground c_l_any_ground k_l_any_ground
  have b_l_any_ground := F_l_any_ground.binds (ps := ["_law_state_here"]) fun _ _ _ _ _ _ us hl => match us, hl with | [_], _ => rfl
  have F_l_beyond := fun_mk (st := s_l_beyond) l_l_beyond c_l_beyond k_l_beyond
  have b_l_beyond := F_l_beyond.binds (ps := ["_law_links", "_law_at", "_law_end"]) fun _ _ _ _ _ _ us hl => match us, hl with | [_, _, _], _ => rfl
  have F_l_letter := fun_mk (st := s_l_letter) l_l_letter c_l_letter k_l_letter
  have b_l_letter := F_l_letter.binds (ps := ["_law_state_here"]) fun _ _ _ _ _ _ us hl => match us, hl with | [_], _ => rfl
  have F_l_made := fun_mk (st := s_l_made) l_l_made c_l_made k_l_made
  have b_l_made := F_l_made.binds (ps := ["_law_told"]) fun _ _ _ _ _ _ us hl => match us, hl with | [_], _ => rfl
  have F_l_stands := fun_mk (st := s_l_stands) l_l_stands c_l_stands k_l_stands
  have b_l_stands := F_l_stands.binds (ps := ["_law_post", "_law_lanes"]) fun _ _ _ _ _ _ us hl => match us, hl with | [_, _], _ => rfl
  have F_l_row := fun_mk (st := s_l_row) l_l_row c_l_row k_l_row
  have b_l_row := F_l_row.binds (ps := ["_law_state_here", "_law_links", "_law_many"]) fun _ _ _ _ _ _ us hl => match us, hl with | [_, _, _], _ => rfl
  have F_l_order := fun_mk (st := s_l_order) l_l_order c_l_order k_l_order
  have b_l_order := F_l_order.binds (ps := ["_law_state_here", "_law_deeds"]) fun _ _ _ _ _ _ us hl => match us, hl with | [_, _], _ => rfl
  have F_l_done := fun_mk (st := s_l_done) l_l_done c_l_done k_l_done
  have b_l_done := F_l_done.binds (ps := ["_law_post", "_law_links", "_law_deeds", "_law_order_here", "_law_places", "_law_told"]) fun _ _ _ _ _ _ us hl => match us, hl with | [_, _, _, _, _, _], _ => rfl
  have F_l_due := fun_mk (st := s_l_due) l_l_due c_l_due k_l_due
  have b_l_due := F_l_due.binds (ps := ["_law_deeds"]) fun _ _ _ _ _ _ us hl => match us, hl with | [_], _ => rfl
  have F_l_same := fun_mk (st := s_l_same) l_l_same c_l_same k_l_same
  have b_l_same := F_l_same.binds (ps := ["_law_told", "_law_wanted"]) fun _ _ _ _ _ _ us hl => match us, hl with | [_, _], _ => rfl
  have F_is_number := fun_mk (st := s_is_number) l_is_number c_is_number k_is_number
  have b_is_number := F_is_number.binds (ps := ["thing"]) fun _ _ _ _ _ _ us hl => match us, hl with | [_], _ => rfl
  have F__are_halls := fun_mk (st := s__are_halls) l__are_halls c__are_halls k__are_halls
  have b__are_halls := F__are_halls.binds (ps := ["things"]) fun _ _ _ _ _ _ us hl => match us, hl with | [_], _ => rfl
  have F__is_link := fun_mk (st := s__is_link) l__is_link c__is_link k__is_link
  have b__is_link := F__is_link.binds (ps := ["thing", "halls"]) fun _ _ _ _ _ _ us hl => match us, hl with | [_, _], _ => rfl
  have F__are_links := fun_mk (st := s__are_links) l__are_links c__are_links k__are_links
  have b__are_links := F__are_links.binds (ps := ["things", "halls"]) fun _ _ _ _ _ _ us hl => match us, hl with | [_, _], _ => rfl
  have F_Net___init__ := fun_mk (st := s_Net___init__) l_Net___init__ c_Net___init__ k_Net___init__
  have b_Net___init__ := F_Net___init__.binds (ps := ["self", "halls", "links"]) fun _ _ _ _ _ _ us hl => match us, hl with | [_, _, _], _ => rfl
  have F_Net_halls := fun_mk (st := s_Net_halls) l_Net_halls c_Net_halls k_Net_halls
  have b_Net_halls := F_Net_halls.binds (ps := ["self"]) fun _ _ _ _ _ _ us hl => match us, hl with | [_], _ => rfl
  have F_Net_links := fun_mk (st := s_Net_links) l_Net_links c_Net_links k_Net_links
  have b_Net_links := F_Net_links.binds (ps := ["self"]) fun _ _ _ _ _ _ us hl => match us, hl with | [_], _ => rfl
  have F_Net_most := fun_mk (st := s_Net_most) l_Net_most c_Net_most k_Net_most
  have b_Net_most := F_Net_most.binds (ps := ["self"]) fun _ _ _ _ _ _ us hl => match us, hl with | [_], _ => rfl
  have F_Net_doors := fun_mk (st := s_Net_doors) l_Net_doors c_Net_doors k_Net_doors
  have b_Net_doors := F_Net_doors.binds (ps := ["self", "hall"]) fun _ _ _ _ _ _ us hl => match us, hl with | [_, _], _ => rfl
  have F_Net__link := fun_mk (st := s_Net__link) l_Net__link c_Net__link k_Net__link
  have b_Net__link := F_Net__link.binds (ps := ["self", "link"]) fun _ _ _ _ _ _ us hl => match us, hl with | [_, _], _ => rfl
  have F_Net_beyond := fun_mk (st := s_Net_beyond) l_Net_beyond c_Net_beyond k_Net_beyond
  have b_Net_beyond := F_Net_beyond.binds (ps := ["self", "link", "hall"]) fun _ _ _ _ _ _ us hl => match us, hl with | [_, _, _], _ => rfl
  have F_Net_cost := fun_mk (st := s_Net_cost) l_Net_cost c_Net_cost k_Net_cost
  have b_Net_cost := F_Net_cost.binds (ps := ["self", "link"]) fun _ _ _ _ _ _ us hl => match us, hl with | [_, _], _ => rfl
  have F_Net_ends := fun_mk (st := s_Net_ends) l_Net_ends c_Net_ends k_Net_ends
  have b_Net_ends := F_Net_ends.binds (ps := ["self", "link"]) fun _ _ _ _ _ _ us hl => match us, hl with | [_, _], _ => rfl
  have F_Post___init__ := fun_mk (st := s_Post___init__) l_Post___init__ c_Post___init__ k_Post___init__
  have b_Post___init__ := F_Post___init__.binds (ps := ["self", "net"]) fun _ _ _ _ _ _ us hl => match us, hl with | [_, _], _ => rfl
  have F_Post___len__ := fun_mk (st := s_Post___len__) l_Post___len__ c_Post___len__ k_Post___len__
  have b_Post___len__ := F_Post___len__.binds (ps := ["self"]) fun _ _ _ _ _ _ us hl => match us, hl with | [_], _ => rfl
  have F_Post_send := fun_mk (st := s_Post_send) l_Post_send c_Post_send k_Post_send
  have b_Post_send := F_Post_send.binds (ps := ["self", "link", "hall", "letter"]) fun _ _ _ _ _ _ us hl => match us, hl with | [_, _, _, _], _ => rfl
  have F_Post_first := fun_mk (st := s_Post_first) l_Post_first c_Post_first k_Post_first
  have b_Post_first := F_Post_first.binds (ps := ["self", "link", "hall"]) fun _ _ _ _ _ _ us hl => match us, hl with | [_, _, _], _ => rfl
  have F_Post_take := fun_mk (st := s_Post_take) l_Post_take c_Post_take k_Post_take
  have b_Post_take := F_Post_take.binds (ps := ["self", "link", "hall"]) fun _ _ _ _ _ _ us hl => match us, hl with | [_, _, _], _ => rfl
  have F_Post_waiting := fun_mk (st := s_Post_waiting) l_Post_waiting c_Post_waiting k_Post_waiting
  have b_Post_waiting := F_Post_waiting.binds (ps := ["self"]) fun _ _ _ _ _ _ us hl => match us, hl with | [_], _ => rfl
  have F_Post_rows := fun_mk (st := s_Post_rows) l_Post_rows c_Post_rows k_Post_rows
  have b_Post_rows := F_Post_rows.binds (ps := ["self"]) fun _ _ _ _ _ _ us hl => match us, hl with | [_], _ => rfl
  have F_Post_twin := fun_mk (st := s_Post_twin) l_Post_twin c_Post_twin k_Post_twin
  have b_Post_twin := F_Post_twin.binds (ps := ["self"]) fun _ _ _ _ _ _ us hl => match us, hl with | [_], _ => rfl
  have F_Post__row := fun_mk (st := s_Post__row) l_Post__row c_Post__row k_Post__row
  have b_Post__row := F_Post__row.binds (ps := ["self", "link", "hall"]) fun _ _ _ _ _ _ us hl => match us, hl with | [_, _, _], _ => rfl
  have F_Say___init__ := fun_mk (st := s_Say___init__) l_Say___init__ c_Say___init__ k_Say___init__
  have b_Say___init__ := F_Say___init__.binds (ps := ["self", "number", "root", "far"]) fun _ _ _ _ _ _ us hl => match us, hl with | [_, _, _, _], _ => rfl
  have F_Say___eq__ := fun_mk (st := s_Say___eq__) l_Say___eq__ c_Say___eq__ k_Say___eq__
  have b_Say___eq__ := F_Say___eq__.binds (ps := ["self", "other"]) fun _ _ _ _ _ _ us hl => match us, hl with | [_, _], _ => rfl
  have F_Say_told := fun_mk (st := s_Say_told) l_Say_told c_Say_told k_Say_told
  have b_Say_told := F_Say_told.binds (ps := ["self"]) fun _ _ _ _ _ _ us hl => match us, hl with | [_], _ => rfl
  have F_Agree___init__ := fun_mk (st := s_Agree___init__) l_Agree___init__ c_Agree___init__ k_Agree___init__
  have b_Agree___init__ := F_Agree___init__.binds (ps := ["self", "number"]) fun _ _ _ _ _ _ us hl => match us, hl with | [_, _], _ => rfl
  have F_Agree___eq__ := fun_mk (st := s_Agree___eq__) l_Agree___eq__ c_Agree___eq__ k_Agree___eq__
  have b_Agree___eq__ := F_Agree___eq__.binds (ps := ["self", "other"]) fun _ _ _ _ _ _ us hl => match us, hl with | [_, _], _ => rfl
  have F_Agree_told := fun_mk (st := s_Agree_told) l_Agree_told c_Agree_told k_Agree_told
  have b_Agree_told := F_Agree_told.binds (ps := ["self"]) fun _ _ _ _ _ _ us hl => match us, hl with | [_], _ => rfl
  have F_law := fun_mk (st := s_law) l_law c_law k_law
  have b_law := F_law.binds (ps := ["_law_script"]) fun _ _ _ _ _ _ us hl => match us, hl with | [_], _ => rfl
  let T : Tx K mg := {
    c_Letter := C_Letter,
    g_Letter := PySem.W.mg_of X G aC_Letter,
    cl_Letter := ⟨pg_Letter, hd_Letter, po_Letter, sa_Letter⟩,
    c_Say := C_Say,
    g_Say := PySem.W.mg_of X G aC_Say,
    cl_Say := ⟨pg_Say, hd_Say, po_Say, sa_Say⟩,
    c_Agree := C_Agree,
    g_Agree := PySem.W.mg_of X G aC_Agree,
    cl_Agree := ⟨pg_Agree, hd_Agree, po_Agree, sa_Agree⟩,
    c_Net := C_Net,
    g_Net := PySem.W.mg_of X G aC_Net,
    cl_Net := ⟨pg_Net, hd_Net, po_Net, sa_Net⟩,
    c_Post := C_Post,
    g_Post := PySem.W.mg_of X G aC_Post,
    cl_Post := ⟨pg_Post, hd_Post, po_Post, sa_Post⟩,
    a_l_state := f_l_state,
    d_l_state := _,
    F_l_state := F_l_state,
    b_l_state := b_l_state,
    g_l_state := PySem.W.mg_of X G a_l_state,
    a_l_draw := f_l_draw,
    d_l_draw := _,
    F_l_draw := F_l_draw,
    b_l_draw := b_l_draw,
    g_l_draw := PySem.W.mg_of X G a_l_draw,
    a_l_alike := f_l_alike,
    d_l_alike := _,
    F_l_alike := F_l_alike,
    b_l_alike := b_l_alike,
    g_l_alike := PySem.W.mg_of X G a_l_alike,
    a_l_ground := f_l_ground,
    d_l_ground := _,
    F_l_ground := F_l_ground,
    b_l_ground := b_l_ground,
    g_l_ground := PySem.W.mg_of X G a_l_ground,
    a_l_any_ground := f_l_any_ground,
    d_l_any_ground := _,
    F_l_any_ground := F_l_any_ground,
    b_l_any_ground := b_l_any_ground,
    g_l_any_ground := PySem.W.mg_of X G a_l_any_ground,
    a_l_beyond := f_l_beyond,
    d_l_beyond := _,
    F_l_beyond := F_l_beyond,
    b_l_beyond := b_l_beyond,
    g_l_beyond := PySem.W.mg_of X G a_l_beyond,
    a_l_letter := f_l_letter,
    d_l_letter := _,
    F_l_letter := F_l_letter,
    b_l_letter := b_l_letter,
    g_l_letter := PySem.W.mg_of X G a_l_letter,
    a_l_made := f_l_made,
    d_l_made := _,
    F_l_made := F_l_made,
    b_l_made := b_l_made,
    g_l_made := PySem.W.mg_of X G a_l_made,
    a_l_stands := f_l_stands,
    d_l_stands := _,
    F_l_stands := F_l_stands,
    b_l_stands := b_l_stands,
    g_l_stands := PySem.W.mg_of X G a_l_stands,
    a_l_row := f_l_row,
    d_l_row := _,
    F_l_row := F_l_row,
    b_l_row := b_l_row,
    g_l_row := PySem.W.mg_of X G a_l_row,
    a_l_order := f_l_order,
    d_l_order := _,
    F_l_order := F_l_order,
    b_l_order := b_l_order,
    g_l_order := PySem.W.mg_of X G a_l_order,
    a_l_done := f_l_done,
    d_l_done := _,
    F_l_done := F_l_done,
    b_l_done := b_l_done,
    g_l_done := PySem.W.mg_of X G a_l_done,
    a_l_due := f_l_due,
    d_l_due := _,
    F_l_due := F_l_due,
    b_l_due := b_l_due,
    g_l_due := PySem.W.mg_of X G a_l_due,
    a_l_same := f_l_same,
    d_l_same := _,
    F_l_same := F_l_same,
    b_l_same := b_l_same,
    g_l_same := PySem.W.mg_of X G a_l_same,
    a_is_number := f_is_number,
    d_is_number := _,
    F_is_number := F_is_number,
    b_is_number := b_is_number,
    g_is_number := PySem.W.mg_of X G a_is_number,
    a__are_halls := f__are_halls,
    d__are_halls := _,
    F__are_halls := F__are_halls,
    b__are_halls := b__are_halls,
    g__are_halls := PySem.W.mg_of X G a__are_halls,
    a__is_link := f__is_link,
    d__is_link := _,
    F__is_link := F__is_link,
    b__is_link := b__is_link,
    g__is_link := PySem.W.mg_of X G a__is_link,
    a__are_links := f__are_links,
    d__are_links := _,
    F__are_links := F__are_links,
    b__are_links := b__are_links,
    g__are_links := PySem.W.mg_of X G a__are_links,
    a_Net___init__ := f_Net___init__,
    d_Net___init__ := _,
    F_Net___init__ := F_Net___init__,
    b_Net___init__ := b_Net___init__,
    m_Net := ⟨mk_Net, a_Net___init__, i_Net___init__, kc_Net⟩,
    a_Net_halls := f_Net_halls,
    d_Net_halls := _,
    F_Net_halls := F_Net_halls,
    b_Net_halls := b_Net_halls,
    me_Net_halls := ⟨a_Net_halls, i_Net_halls, k_Net_halls⟩,
    a_Net_links := f_Net_links,
    d_Net_links := _,
    F_Net_links := F_Net_links,
    b_Net_links := b_Net_links,
    me_Net_links := ⟨a_Net_links, i_Net_links, k_Net_links⟩,
    a_Net_most := f_Net_most,
    d_Net_most := _,
    F_Net_most := F_Net_most,
    b_Net_most := b_Net_most,
    me_Net_most := ⟨a_Net_most, i_Net_most, k_Net_most⟩,
    a_Net_doors := f_Net_doors,
    d_Net_doors := _,
    F_Net_doors := F_Net_doors,
    b_Net_doors := b_Net_doors,
    me_Net_doors := ⟨a_Net_doors, i_Net_doors, k_Net_doors⟩,
    a_Net__link := f_Net__link,
    d_Net__link := _,
    F_Net__link := F_Net__link,
    b_Net__link := b_Net__link,
    me_Net__link := ⟨a_Net__link, i_Net__link, k_Net__link⟩,
    a_Net_beyond := f_Net_beyond,
    d_Net_beyond := _,
    F_Net_beyond := F_Net_beyond,
    b_Net_beyond := b_Net_beyond,
    me_Net_beyond := ⟨a_Net_beyond, i_Net_beyond, k_Net_beyond⟩,
    a_Net_cost := f_Net_cost,
    d_Net_cost := _,
    F_Net_cost := F_Net_cost,
    b_Net_cost := b_Net_cost,
    me_Net_cost := ⟨a_Net_cost, i_Net_cost, k_Net_cost⟩,
    a_Net_ends := f_Net_ends,
    d_Net_ends := _,
    F_Net_ends := F_Net_ends,
    b_Net_ends := b_Net_ends,
    me_Net_ends := ⟨a_Net_ends, i_Net_ends, k_Net_ends⟩,
    a_Post___init__ := f_Post___init__,
    d_Post___init__ := _,
    F_Post___init__ := F_Post___init__,
    b_Post___init__ := b_Post___init__,
    m_Post := ⟨mk_Post, a_Post___init__, i_Post___init__, kc_Post⟩,
    a_Post___len__ := f_Post___len__,
    d_Post___len__ := _,
    F_Post___len__ := F_Post___len__,
    b_Post___len__ := b_Post___len__,
    me_Post___len__ := ⟨a_Post___len__, i_Post___len__, k_Post___len__⟩,
    a_Post_send := f_Post_send,
    d_Post_send := _,
    F_Post_send := F_Post_send,
    b_Post_send := b_Post_send,
    me_Post_send := ⟨a_Post_send, i_Post_send, k_Post_send⟩,
    a_Post_first := f_Post_first,
    d_Post_first := _,
    F_Post_first := F_Post_first,
    b_Post_first := b_Post_first,
    me_Post_first := ⟨a_Post_first, i_Post_first, k_Post_first⟩,
    a_Post_take := f_Post_take,
    d_Post_take := _,
    F_Post_take := F_Post_take,
    b_Post_take := b_Post_take,
    me_Post_take := ⟨a_Post_take, i_Post_take, k_Post_take⟩,
    a_Post_waiting := f_Post_waiting,
    d_Post_waiting := _,
    F_Post_waiting := F_Post_waiting,
    b_Post_waiting := b_Post_waiting,
    me_Post_waiting := ⟨a_Post_waiting, i_Post_waiting, k_Post_waiting⟩,
    a_Post_rows := f_Post_rows,
    d_Post_rows := _,
    F_Post_rows := F_Post_rows,
    b_Post_rows := b_Post_rows,
    me_Post_rows := ⟨a_Post_rows, i_Post_rows, k_Post_rows⟩,
    a_Post_twin := f_Post_twin,
    d_Post_twin := _,
    F_Post_twin := F_Post_twin,
    b_Post_twin := b_Post_twin,
    me_Post_twin := ⟨a_Post_twin, i_Post_twin, k_Post_twin⟩,
    a_Post__row := f_Post__row,
    d_Post__row := _,
    F_Post__row := F_Post__row,
    b_Post__row := b_Post__row,
    me_Post__row := ⟨a_Post__row, i_Post__row, k_Post__row⟩,
    a_Say___init__ := f_Say___init__,
    d_Say___init__ := _,
    F_Say___init__ := F_Say___init__,
    b_Say___init__ := b_Say___init__,
    m_Say := ⟨mk_Say, a_Say___init__, i_Say___init__, kc_Say⟩,
    a_Say___eq__ := f_Say___eq__,
    d_Say___eq__ := _,
    F_Say___eq__ := F_Say___eq__,
    b_Say___eq__ := b_Say___eq__,
    me_Say___eq__ := ⟨a_Say___eq__, i_Say___eq__, k_Say___eq__⟩,
    a_Say_told := f_Say_told,
    d_Say_told := _,
    F_Say_told := F_Say_told,
    b_Say_told := b_Say_told,
    me_Say_told := ⟨a_Say_told, i_Say_told, k_Say_told⟩,
    a_Agree___init__ := f_Agree___init__,
    d_Agree___init__ := _,
    F_Agree___init__ := F_Agree___init__,
    b_Agree___init__ := b_Agree___init__,
    m_Agree := ⟨mk_Agree, a_Agree___init__, i_Agree___init__, kc_Agree⟩,
    a_Agree___eq__ := f_Agree___eq__,
    d_Agree___eq__ := _,
    F_Agree___eq__ := F_Agree___eq__,
    b_Agree___eq__ := b_Agree___eq__,
    me_Agree___eq__ := ⟨a_Agree___eq__, i_Agree___eq__, k_Agree___eq__⟩,
    a_Agree_told := f_Agree_told,
    d_Agree_told := _,
    F_Agree_told := F_Agree_told,
    b_Agree_told := b_Agree_told,
    me_Agree_told := ⟨a_Agree_told, i_Agree_told, k_Agree_told⟩,
    a_law := _,
    d_law := _,
    F_law := F_law,
    b_law := b_law,
    g_law := PySem.W.mg_of X G a_law,
    e_Say := ⟨a_Say___eq__, i_Say___eq__, en_Say, eo_Say, all7 es_Say_NoneType es_Say_bool es_Say_int es_Say_str es_Say_list es_Say_tuple es_Say_dict⟩,
    q_Say := ⟨qc_Say, qg_Say, qt_Say, qm_Say, all7 qk_Say_NoneType qk_Say_bool qk_Say_int qk_Say_str qk_Say_list qk_Say_tuple qk_Say_dict⟩,
    e_Agree := ⟨a_Agree___eq__, i_Agree___eq__, en_Agree, eo_Agree, all7 es_Agree_NoneType es_Agree_bool es_Agree_int es_Agree_str es_Agree_list es_Agree_tuple es_Agree_dict⟩,
    q_Agree := ⟨qc_Agree, qg_Agree, qt_Agree, qm_Agree, all7 qk_Agree_NoneType qk_Agree_bool qk_Agree_int qk_Agree_str qk_Agree_list qk_Agree_tuple qk_Agree_dict⟩,
    kt_Say_Letter := kt_Say_Letter,
    kt_Agree_Letter := kt_Agree_Letter,
    kt_Say_Agree := kt_Say_Agree,
    kt_Agree_Say := kt_Agree_Say,
    sb_Say_Agree := sb_Say_Agree,
    sb_Agree_Say := sb_Agree_Say,
    n_Say_number := na_Say_number,
    n_Say_root := na_Say_root,
    n_Say_far := na_Say_far,
    n_Agree_number := na_Agree_number,
    n_Net__handed := na_Net__handed,
    n_Net__rising := na_Net__rising,
    n_Net__links := na_Net__links,
    n_Post__net := na_Post__net,
    n_Post__rows := na_Post__rows,
    z_abs := PySem.W.mg_none_of X G z_abs,
    z_len := PySem.W.mg_none_of X G z_len,
    z_range := PySem.W.mg_none_of X G z_range,
    z_list := PySem.W.mg_none_of X G z_list,
    z_all := PySem.W.mg_none_of X G z_all,
    z_isinstance := PySem.W.mg_none_of X G z_isinstance,
    z_tuple := PySem.W.mg_none_of X G z_tuple,
    z_int := PySem.W.mg_none_of X G z_int,
    z_bool := PySem.W.mg_none_of X G z_bool,
    z_str := PySem.W.mg_none_of X G z_str,
    z_sorted := PySem.W.mg_none_of X G z_sorted,
    z_dict := PySem.W.mg_none_of X G z_dict,
    z_sum := PySem.W.mg_none_of X G z_sum,
    z_set := PySem.W.mg_none_of X G z_set,
    z_enumerate := PySem.W.mg_none_of X G z_enumerate,
    t_MOST_HALLS := t_MOST_HALLS,
    v_MOST_HALLS := PySem.W.mg_of X G v_MOST_HALLS,
    t_MOST_LINKS := t_MOST_LINKS,
    v_MOST_LINKS := PySem.W.mg_of X G v_MOST_LINKS,
    t_LAST_HALL := t_LAST_HALL,
    v_LAST_HALL := PySem.W.mg_of X G v_LAST_HALL,
    t_MOST_COST := t_MOST_COST,
    v_MOST_COST := PySem.W.mg_of X G v_MOST_COST }
  exact ⟨_, fun s v => .of_eq rfl, fun base _ _ => ok_law T⟩
end K19
open PySem PySem.W PyProof.Rows
set_option maxHeartbeats 0 in
theorem PySem.Challenge.cw_ringless_k19_whole_posts_by_any_order_holds : PySem.Challenge.rw_ringless_k19_whole_posts_by_any_order.Holds := by
  w_on; o_law; k_head; (case hw => w_witness2)
  k_fill
  refine MyG.walk_ofG (l := PySem.Challenge.rw_ringless_k19_whole_posts_by_any_order) (n := 63) (k := 9) (x := "_law_script") (CX := fun _ => L2.CX0) (sp := fun w => K19.sp_law _) rfl (by decide) rfl ⟨rfl, by decide, by decide⟩ (fun w h Y => PySem.W.kIn_of Y) ?F (fun w H a ns hl _ hS => K19.law_start _ _ _ _ hl hS) (fun _ _ _ _ _ h => h)
  case F =>
    intro w mg fa h KX G hmg
    refine' K19.all_mk KX G hmg ?aC_Letter ?pg_Letter ?hd_Letter ?po_Letter ?sa_Letter ?mk_Letter ?kc_Letter ?aC_Say ?pg_Say ?hd_Say ?po_Say ?sa_Say ?mk_Say ?kc_Say ?aC_Agree ?pg_Agree ?hd_Agree ?po_Agree ?sa_Agree ?mk_Agree ?kc_Agree ?aC_Net ?pg_Net ?hd_Net ?po_Net ?sa_Net ?mk_Net ?kc_Net ?aC_Post ?pg_Post ?hd_Post ?po_Post ?sa_Post ?mk_Post ?kc_Post ?a_l_state ?l_l_state ?c_l_state ?k_l_state ?a_l_draw ?l_l_draw ?c_l_draw ?k_l_draw ?a_l_alike ?l_l_alike ?c_l_alike ?k_l_alike ?a_l_ground ?l_l_ground ?c_l_ground ?k_l_ground ?a_l_any_ground ?l_l_any_ground ?c_l_any_ground ?k_l_any_ground ?a_l_beyond ?l_l_beyond ?c_l_beyond ?k_l_beyond ?a_l_letter ?l_l_letter ?c_l_letter ?k_l_letter ?a_l_made ?l_l_made ?c_l_made ?k_l_made ?a_l_stands ?l_l_stands ?c_l_stands ?k_l_stands ?a_l_row ?l_l_row ?c_l_row ?k_l_row ?a_l_order ?l_l_order ?c_l_order ?k_l_order ?a_l_done ?l_l_done ?c_l_done ?k_l_done ?a_l_due ?l_l_due ?c_l_due ?k_l_due ?a_l_same ?l_l_same ?c_l_same ?k_l_same ?a_is_number ?l_is_number ?c_is_number ?k_is_number ?a__are_halls ?l__are_halls ?c__are_halls ?k__are_halls ?a__is_link ?l__is_link ?c__is_link ?k__is_link ?a__are_links ?l__are_links ?c__are_links ?k__are_links ?a_Net___init__ ?i_Net___init__ ?l_Net___init__ ?c_Net___init__ ?k_Net___init__ ?a_Net_halls ?i_Net_halls ?l_Net_halls ?c_Net_halls ?k_Net_halls ?a_Net_links ?i_Net_links ?l_Net_links ?c_Net_links ?k_Net_links ?a_Net_most ?i_Net_most ?l_Net_most ?c_Net_most ?k_Net_most ?a_Net_doors ?i_Net_doors ?l_Net_doors ?c_Net_doors ?k_Net_doors ?a_Net__link ?i_Net__link ?l_Net__link ?c_Net__link ?k_Net__link ?a_Net_beyond ?i_Net_beyond ?l_Net_beyond ?c_Net_beyond ?k_Net_beyond ?a_Net_cost ?i_Net_cost ?l_Net_cost ?c_Net_cost ?k_Net_cost ?a_Net_ends ?i_Net_ends ?l_Net_ends ?c_Net_ends ?k_Net_ends ?a_Post___init__ ?i_Post___init__ ?l_Post___init__ ?c_Post___init__ ?k_Post___init__ ?a_Post___len__ ?i_Post___len__ ?l_Post___len__ ?c_Post___len__ ?k_Post___len__ ?a_Post_send ?i_Post_send ?l_Post_send ?c_Post_send ?k_Post_send ?a_Post_first ?i_Post_first ?l_Post_first ?c_Post_first ?k_Post_first ?a_Post_take ?i_Post_take ?l_Post_take ?c_Post_take ?k_Post_take ?a_Post_waiting ?i_Post_waiting ?l_Post_waiting ?c_Post_waiting ?k_Post_waiting ?a_Post_rows ?i_Post_rows ?l_Post_rows ?c_Post_rows ?k_Post_rows ?a_Post_twin ?i_Post_twin ?l_Post_twin ?c_Post_twin ?k_Post_twin ?a_Post__row ?i_Post__row ?l_Post__row ?c_Post__row ?k_Post__row ?a_Say___init__ ?i_Say___init__ ?l_Say___init__ ?c_Say___init__ ?k_Say___init__ ?a_Say___eq__ ?i_Say___eq__ ?l_Say___eq__ ?c_Say___eq__ ?k_Say___eq__ ?a_Say_told ?i_Say_told ?l_Say_told ?c_Say_told ?k_Say_told ?a_Agree___init__ ?i_Agree___init__ ?l_Agree___init__ ?c_Agree___init__ ?k_Agree___init__ ?a_Agree___eq__ ?i_Agree___eq__ ?l_Agree___eq__ ?c_Agree___eq__ ?k_Agree___eq__ ?a_Agree_told ?i_Agree_told ?l_Agree_told ?c_Agree_told ?k_Agree_told ?a_law ?l_law ?c_law ?k_law ?en_Say ?eo_Say ?es_Say_NoneType ?es_Say_bool ?es_Say_int ?es_Say_str ?es_Say_list ?es_Say_tuple ?es_Say_dict ?qc_Say ?qg_Say ?qt_Say ?qm_Say ?qk_Say_NoneType ?qk_Say_bool ?qk_Say_int ?qk_Say_str ?qk_Say_list ?qk_Say_tuple ?qk_Say_dict ?en_Agree ?eo_Agree ?es_Agree_NoneType ?es_Agree_bool ?es_Agree_int ?es_Agree_str ?es_Agree_list ?es_Agree_tuple ?es_Agree_dict ?qc_Agree ?qg_Agree ?qt_Agree ?qm_Agree ?qk_Agree_NoneType ?qk_Agree_bool ?qk_Agree_int ?qk_Agree_str ?qk_Agree_list ?qk_Agree_tuple ?qk_Agree_dict ?kt_Say_Letter ?kt_Agree_Letter ?kt_Say_Agree ?kt_Agree_Say ?sb_Say_Agree ?sb_Agree_Say ?na_Say_number ?na_Say_root ?na_Say_far ?na_Agree_number ?na_Net__handed ?na_Net__rising ?na_Net__links ?na_Post__net ?na_Post__rows ?z_abs ?z_len ?z_range ?z_list ?z_all ?z_isinstance ?z_tuple ?z_int ?z_bool ?z_str ?z_sorted ?z_dict ?z_sum ?z_set ?z_enumerate ?v_MOST_HALLS ?v_MOST_LINKS ?v_LAST_HALL ?v_MOST_COST
    (case aC_Letter => k_is)
    (case pg_Letter => k_is)
    (case hd_Letter => k_is)
    (case po_Letter => k_is)
    (case sa_Letter => k_is)
    (case mk_Letter => k_is)
    (case kc_Letter => k_is)
    (case aC_Say => k_is)
    (case pg_Say => k_is)
    (case hd_Say => k_is)
    (case po_Say => k_is)
    (case sa_Say => k_is)
    (case mk_Say => k_is)
    (case kc_Say => k_is)
    (case aC_Agree => k_is)
    (case pg_Agree => k_is)
    (case hd_Agree => k_is)
    (case po_Agree => k_is)
    (case sa_Agree => k_is)
    (case mk_Agree => k_is)
    (case kc_Agree => k_is)
    (case aC_Net => k_is)
    (case pg_Net => k_is)
    (case hd_Net => k_is)
    (case po_Net => k_is)
    (case sa_Net => k_is)
    (case mk_Net => k_is)
    (case kc_Net => k_is)
    (case aC_Post => k_is)
    (case pg_Post => k_is)
    (case hd_Post => k_is)
    (case po_Post => k_is)
    (case sa_Post => k_is)
    (case mk_Post => k_is)
    (case kc_Post => k_is)
    (case a_l_state => k_is)
    (case l_l_state => k_is)
    (case c_l_state => k_is)
    (case k_l_state => k_is)
    (case a_l_draw => k_is)
    (case l_l_draw => k_is)
    (case c_l_draw => k_is)
    (case k_l_draw => k_is)
    (case a_l_alike => k_is)
    (case l_l_alike => k_is)
    (case c_l_alike => k_is)
    (case k_l_alike => k_is)
    (case a_l_ground => k_is)
    (case l_l_ground => k_is)
    (case c_l_ground => k_is)
    (case k_l_ground => k_is)
    (case a_l_any_ground => k_is)
    (case l_l_any_ground => k_is)
    (case c_l_any_ground => k_is)
    (case k_l_any_ground => k_is)
    (case a_l_beyond => k_is)
    (case l_l_beyond => k_is)
    (case c_l_beyond => k_is)
    (case k_l_beyond => k_is)
    (case a_l_letter => k_is)
    (case l_l_letter => k_is)
    (case c_l_letter => k_is)
    (case k_l_letter => k_is)
    (case a_l_made => k_is)
    (case l_l_made => k_is)
    (case c_l_made => k_is)
    (case k_l_made => k_is)
    (case a_l_stands => k_is)
    (case l_l_stands => k_is)
    (case c_l_stands => k_is)
    (case k_l_stands => k_is)
    (case a_l_row => k_is)
    (case l_l_row => k_is)
    (case c_l_row => k_is)
    (case k_l_row => k_is)
    (case a_l_order => k_is)
    (case l_l_order => k_is)
    (case c_l_order => k_is)
    (case k_l_order => k_is)
    (case a_l_done => k_is)
    (case l_l_done => k_is)
    (case c_l_done => k_is)
    (case k_l_done => k_is)
    (case a_l_due => k_is)
    (case l_l_due => k_is)
    (case c_l_due => k_is)
    (case k_l_due => k_is)
    (case a_l_same => k_is)
    (case l_l_same => k_is)
    (case c_l_same => k_is)
    (case k_l_same => k_is)
    (case a_is_number => k_is)
    (case l_is_number => k_is)
    (case c_is_number => k_is)
    (case k_is_number => k_is)
    (case a__are_halls => k_is)
    (case l__are_halls => k_is)
    (case c__are_halls => k_is)
    (case k__are_halls => k_is)
    (case a__is_link => k_is)
    (case l__is_link => k_is)
    (case c__is_link => k_is)
    (case k__is_link => k_is)
    (case a__are_links => k_is)
    (case l__are_links => k_is)
    (case c__are_links => k_is)
    (case k__are_links => k_is)
    (case a_Net___init__ => k_is)
    (case i_Net___init__ => k_is)
    (case l_Net___init__ => k_is)
    (case c_Net___init__ => k_is)
    (case k_Net___init__ => k_is)
    (case a_Net_halls => k_is)
    (case i_Net_halls => k_is)
    (case l_Net_halls => k_is)
    (case c_Net_halls => k_is)
    (case k_Net_halls => k_is)
    (case a_Net_links => k_is)
    (case i_Net_links => k_is)
    (case l_Net_links => k_is)
    (case c_Net_links => k_is)
    (case k_Net_links => k_is)
    (case a_Net_most => k_is)
    (case i_Net_most => k_is)
    (case l_Net_most => k_is)
    (case c_Net_most => k_is)
    (case k_Net_most => k_is)
    (case a_Net_doors => k_is)
    (case i_Net_doors => k_is)
    (case l_Net_doors => k_is)
    (case c_Net_doors => k_is)
    (case k_Net_doors => k_is)
    (case a_Net__link => k_is)
    (case i_Net__link => k_is)
    (case l_Net__link => k_is)
    (case c_Net__link => k_is)
    (case k_Net__link => k_is)
    (case a_Net_beyond => k_is)
    (case i_Net_beyond => k_is)
    (case l_Net_beyond => k_is)
    (case c_Net_beyond => k_is)
    (case k_Net_beyond => k_is)
    (case a_Net_cost => k_is)
    (case i_Net_cost => k_is)
    (case l_Net_cost => k_is)
    (case c_Net_cost => k_is)
    (case k_Net_cost => k_is)
    (case a_Net_ends => k_is)
    (case i_Net_ends => k_is)
    (case l_Net_ends => k_is)
    (case c_Net_ends => k_is)
    (case k_Net_ends => k_is)
    (case a_Post___init__ => k_is)
    (case i_Post___init__ => k_is)
    (case l_Post___init__ => k_is)
    (case c_Post___init__ => k_is)
    (case k_Post___init__ => k_is)
    (case a_Post___len__ => k_is)
    (case i_Post___len__ => k_is)
    (case l_Post___len__ => k_is)
    (case c_Post___len__ => k_is)
    (case k_Post___len__ => k_is)
    (case a_Post_send => k_is)
    (case i_Post_send => k_is)
    (case l_Post_send => k_is)
    (case c_Post_send => k_is)
    (case k_Post_send => k_is)
    (case a_Post_first => k_is)
    (case i_Post_first => k_is)
    (case l_Post_first => k_is)
    (case c_Post_first => k_is)
    (case k_Post_first => k_is)
    (case a_Post_take => k_is)
    (case i_Post_take => k_is)
    (case l_Post_take => k_is)
    (case c_Post_take => k_is)
    (case k_Post_take => k_is)
    (case a_Post_waiting => k_is)
    (case i_Post_waiting => k_is)
    (case l_Post_waiting => k_is)
    (case c_Post_waiting => k_is)
    (case k_Post_waiting => k_is)
    (case a_Post_rows => k_is)
    (case i_Post_rows => k_is)
    (case l_Post_rows => k_is)
    (case c_Post_rows => k_is)
    (case k_Post_rows => k_is)
    (case a_Post_twin => k_is)
    (case i_Post_twin => k_is)
    (case l_Post_twin => k_is)
    (case c_Post_twin => k_is)
    (case k_Post_twin => k_is)
    (case a_Post__row => k_is)
    (case i_Post__row => k_is)
    (case l_Post__row => k_is)
    (case c_Post__row => k_is)
    (case k_Post__row => k_is)
    (case a_Say___init__ => k_is)
    (case i_Say___init__ => k_is)
    (case l_Say___init__ => k_is)
    (case c_Say___init__ => k_is)
    (case k_Say___init__ => k_is)
    (case a_Say___eq__ => k_is)
    (case i_Say___eq__ => k_is)
    (case l_Say___eq__ => k_is)
    (case c_Say___eq__ => k_is)
    (case k_Say___eq__ => k_is)
    (case a_Say_told => k_is)
    (case i_Say_told => k_is)
    (case l_Say_told => k_is)
    (case c_Say_told => k_is)
    (case k_Say_told => k_is)
    (case a_Agree___init__ => k_is)
    (case i_Agree___init__ => k_is)
    (case l_Agree___init__ => k_is)
    (case c_Agree___init__ => k_is)
    (case k_Agree___init__ => k_is)
    (case a_Agree___eq__ => k_is)
    (case i_Agree___eq__ => k_is)
    (case l_Agree___eq__ => k_is)
    (case c_Agree___eq__ => k_is)
    (case k_Agree___eq__ => k_is)
    (case a_Agree_told => k_is)
    (case i_Agree_told => k_is)
    (case l_Agree_told => k_is)
    (case c_Agree_told => k_is)
    (case k_Agree_told => k_is)
    (case a_law => k_is)
    (case l_law => k_is)
    (case c_law => k_is)
    (case k_law => k_is)
    (case en_Say => k_is)
    (case eo_Say => k_is)
    (case es_Say_NoneType => k_is)
    (case es_Say_bool => k_is)
    (case es_Say_int => k_is)
    (case es_Say_str => k_is)
    (case es_Say_list => k_is)
    (case es_Say_tuple => k_is)
    (case es_Say_dict => k_is)
    (case qc_Say => k_is)
    (case qg_Say => k_is)
    (case qt_Say => k_is)
    (case qm_Say => k_is)
    (case qk_Say_NoneType => kit_is)
    (case qk_Say_bool => kit_is)
    (case qk_Say_int => kit_is)
    (case qk_Say_str => kit_is)
    (case qk_Say_list => kit_is)
    (case qk_Say_tuple => kit_is)
    (case qk_Say_dict => kit_is)
    (case en_Agree => k_is)
    (case eo_Agree => k_is)
    (case es_Agree_NoneType => k_is)
    (case es_Agree_bool => k_is)
    (case es_Agree_int => k_is)
    (case es_Agree_str => k_is)
    (case es_Agree_list => k_is)
    (case es_Agree_tuple => k_is)
    (case es_Agree_dict => k_is)
    (case qc_Agree => k_is)
    (case qg_Agree => k_is)
    (case qt_Agree => k_is)
    (case qm_Agree => k_is)
    (case qk_Agree_NoneType => kit_is)
    (case qk_Agree_bool => kit_is)
    (case qk_Agree_int => kit_is)
    (case qk_Agree_str => kit_is)
    (case qk_Agree_list => kit_is)
    (case qk_Agree_tuple => kit_is)
    (case qk_Agree_dict => kit_is)
    (case kt_Say_Letter => kit_is)
    (case kt_Agree_Letter => kit_is)
    (case kt_Say_Agree => kit_is)
    (case kt_Agree_Say => kit_is)
    (case sb_Say_Agree => k_is)
    (case sb_Agree_Say => k_is)
    (case na_Say_number => k_is)
    (case na_Say_root => k_is)
    (case na_Say_far => k_is)
    (case na_Agree_number => k_is)
    (case na_Net__handed => k_is)
    (case na_Net__rising => k_is)
    (case na_Net__links => k_is)
    (case na_Post__net => k_is)
    (case na_Post__rows => k_is)
    (case z_abs => k_is)
    (case z_len => k_is)
    (case z_range => k_is)
    (case z_list => k_is)
    (case z_all => k_is)
    (case z_isinstance => k_is)
    (case z_tuple => k_is)
    (case z_int => k_is)
    (case z_bool => k_is)
    (case z_str => k_is)
    (case z_sorted => k_is)
    (case z_dict => k_is)
    (case z_sum => k_is)
    (case z_set => k_is)
    (case z_enumerate => k_is)
    (case v_MOST_HALLS => k_is)
    (case v_MOST_LINKS => k_is)
    (case v_LAST_HALL => k_is)
    (case v_MOST_COST => k_is)
