import PyProof.Rows.All
import Wide.All
import OpenK.AllK
import Wide.FinOn
import HandS.ForMost
import HandS.IsInst
import HandS.DeepEq
import PyProof.ReprLen
import HandS.Style
import HandS.Flow
import HandS.TupLe
import HandS.Strs
import HandS.Zip
import HandS.Codes
import KE.SortData
import KE.DataCmp
import HandS.Walk
import HandS.Conv
import HandS.ForExc
import HandS.ExcInit
import HandS.ExcIs
import HandS.ExcField
import KE.KExcIs
import KE.SortCalls
import KE.KDictCopyH
import HandS.Property
import HandS.More
import KE.KDictSum
import PyProof.StrLawsRepr
import KE.KDictPairs
import HandS.TupLen
import HandS.ListItems
import HandS.DictTup
import HandS.TupAny
import PySem.Challenge.RW_letinside_k12_gates_told_and_refused
set_option Elab.async false
set_option linter.all false
set_option maxRecDepth 100000
set_option maxHeartbeats 4000000
/-! Calls that know that no repr runs around them (guards), so that repr of data may be asked within. -/
namespace G
open PySem PySem.Spec PyProof.Rows L2

/-- no repr is under way -/
abbrev Calm (A : Around) : Prop := A.guards = some []

/-- a promise of a def, for callers that no repr has called -/
structure Fn (P : Program) (w : World) (K : PySem.W.Frag) (mg : Str → Option Value)
    (base : Heap) (CX : CXT) (k : Nat) (f : Addr) (fd : FuncData) (ps : List Str) (sp : Sp) : Prop where
  len : ∀ vs H Q E, sp vs H Q E → vs.length = ps.length
  go : ∀ A outer s H args us vs Q E, Calm A → Room k A →
    Env0 P w K mg base A outer s H → BindsTo s fd args (ps.zip us) → Vals vs us →
    sp vs H Q E →
    codeAny (model P w) A (.call (.ref f) args) (CR CX outer P w H s Q E) s

section
variable {P : Program} {w : World} {K : PySem.W.Frag} {mg : Str → Option Value}
  {base : Heap} {CX : CXT} {k j : Nat} {f : Addr} {fd : FuncData} {ps : List Str} {sp : Sp}
theorem Fn.up (F : Fn P w K mg base CX j f fd ps sp) (h : j ≤ k) :
    Fn P w K mg base CX k f fd ps sp :=
  ⟨F.len, fun A o s H a us vs Q E c r => F.go A o s H a us vs Q E c (r.mono h)⟩
theorem Fn.weak {sp' : Sp} (F : Fn P w K mg base CX k f fd ps sp)
    (h : ∀ vs H Q E, sp' vs H Q E → sp vs H Q E) : Fn P w K mg base CX k f fd ps sp' :=
  ⟨fun vs H Q E q => F.len vs H Q E (h _ _ _ _ q),
   fun A o s H a us vs Q E c r e b v q => F.go A o s H a us vs Q E c r e b v (h _ _ _ _ q)⟩
theorem Fn.ofOk (F : FnOk P w K mg base CX k f fd ps sp) : Fn P w K mg base CX k f fd ps sp :=
  ⟨F.len, fun A o s H a us vs Q E _ r e b v q => F.run A o s H a us vs Q E r e b v q⟩
end

section
variable {X : Cx} {CX : CXT} {k : Nat} {f C : Addr} {fd : FuncData} {ps : List Str} {sp : Sp}
  {dvs : List V} {ds : List Value} {E : XK} {x m : Str} {p pos apos : Pos} {e o : Expr}
  {es : List Expr} {ta : TE} {t : TA} {r : List V → Hp → VK → Prop}

/-- a def as something that is called with values -/
theorem callR_fn (F : Fn X.prog X.w X.K X.mg X.base CX k f fd ps sp) (hc : Calm X.A)
    (hr : Room k X.A) (hb : Binds X.K fd ps ds) (hd : Vals dvs ds) (hx : Passes CX X E) :
    CallR X (.ref f) (fun vs H Q => sp (vs ++ dvs) H Q E) := by
  intro pins s σ H vs us Q I rv h
  have r2 := rv.append hd
  have hl : (us ++ ds).length = ps.length := (r2.length.symm).trans (F.len _ _ _ _ h)
  have go := F.go X.A X.stack s H ⟨us, []⟩ _ _ Q E hc hr I.env0 (hb s us I.kIn hl) r2 h
  refine wpAny_call (codeAny_mono go ?_)
  rintro (e | fl) s' hq
  · exact hx pins σ H s e s' I hq
  · cases fl <;> first | exact I.after hq | exact False.elim hq

/-- f(e, ..), f a def of the module -/
theorem pe_fn (F : Fn X.prog X.w X.K X.mg X.base CX k f fd ps sp) (hc : Calm X.A)
    (hr : Room k X.A) (hg : Gl X x) (hm : X.mg x = some (.ref f))
    (hk : PySem.W.keepIn X.K (.ref f) = true) (hb : Binds X.K fd ps ds) (hd : Vals dvs ds)
    (hx : Passes CX X E) (ha : PA X (e :: es) t)
    (hdb : (x == ("__debug__" : Str)) = false := by decide)
    (he : starEach (e :: es) X.env = (false, eval e X.env) :: starEach es X.env := by rfl)
    (hpl : (backTo pos (starEach es X.env)).any (·.1) = false := by rfl) :
    PE X (.Call (.Name x p) (e :: es) [] pos) (tCall sp dvs E t) := by
  constructor
  intro pins s σ H Q I h
  refine wpAny_Call_Name_kw (ld_glob I hg hm ?_ hdb)
  have hA := ha.run pos pins s σ H _ I h
  refine PySem.W.callWith_K (h₀ := X.base) I.ok.mod.kin hk (thn hA ?_) he hpl
  rintro us s1 ⟨vs, H1, I1, rv, q⟩
  exact ⟨I1.kIn, callR_fn F hc hr hb hd hx pins s1 σ H1 vs us Q I1 rv q⟩
theorem pe_fn0 (F : Fn X.prog X.w X.K X.mg X.base CX k f fd ps sp) (hc : Calm X.A)
    (hr : Room k X.A) (hg : Gl X x) (hm : X.mg x = some (.ref f))
    (hk : PySem.W.keepIn X.K (.ref f) = true) (hb : Binds X.K fd ps ds) (hd : Vals dvs ds)
    (hx : Passes CX X E) (hdb : (x == ("__debug__" : Str)) = false := by decide) :
    PE X (.Call (.Name x p) [] [] pos) (tCall sp dvs E tNil) := by
  constructor
  intro pins s σ H Q I h
  refine wpAny_Call_Name_kw (ld_glob I hg hm ?_ hdb)
  exact PySem.W.callWith_K0 I.kIn hk (callR_fn F hc hr hb hd hx pins s σ H [] [] Q I .nil h)

/-- the tree of a method's call -/
abbrev methTree (X : Cx) (o : Expr) (m : Str) (apos pos : Pos) (es : List Expr) (pl : Sem Bool) : Sem Value := do
  let ov ← eval o X.env
  standAt apos.atName
  let (g, first) ← holding [ov] (getMethod ov m pl)
  callWith pos g first (backTo pos (starEach es X.env)) (backToKw pos (keywordEach [] X.env))

/-- o.m(e, ..), o an instance of the class at C -/
theorem pe_mth {pl : Sem Bool} (he : PE X o ta) (c : Cls X.K C) (hm : Meth X.K C m f)
    (F : Fn X.prog X.w X.K X.mg X.base CX k f fd ps sp) (hc : Calm X.A) (hr : Room k X.A)
    (hb : Binds X.K fd ps ds) (hd : Vals dvs ds) (hx : Passes CX X E) (ha : PA X (e :: es) t)
    (hst : starEach (e :: es) X.env = (false, eval e X.env) :: starEach es X.env := by rfl)
    (hpl : (backTo pos (starEach es X.env)).any (·.1) = false := by rfl)
    (ht : eval (.Call (.Attribute o m apos) (e :: es) [] pos) X.env = methTree X o m apos pos (e :: es) pl := by rfl) :
    PE X (.Call (.Attribute o m apos) (e :: es) [] pos) (tMeth C m sp dvs E ta t) := by
  constructor
  intro pins s σ H Q I h
  refine PySem.W.methodCall_KW (pl := pl) (thn (he.run pins s σ H _ I h) ?_) ht
  rintro u s1 ⟨y, H1, I1, rx, a, dx, fs, rfl, ea, l, q⟩
  obtain rfl : u = Value.ref a := rx
  refine getmeth_ok I1 ea c hm l ?_
  have hA := ha.run pos pins s1 σ H1 _ I1 q
  refine PySem.W.callWith_K (first := [.ref a]) (h₀ := X.base) I.ok.mod.kin hm.kp (thn hA ?_) hst hpl
  rintro us s2 ⟨vs, H2, I2, rv, q2⟩
  have rv2 : Vals (V.ref a :: vs) (Value.ref a :: us) := .cons rfl rv
  exact ⟨I2.kIn, callR_fn F hc hr hb hd hx pins s2 σ H2 _ _ Q I2 rv2 q2⟩
theorem pe_mth0 {pl : Sem Bool} (he : PE X o ta) (c : Cls X.K C) (hm : Meth X.K C m f)
    (F : Fn X.prog X.w X.K X.mg X.base CX k f fd ps sp) (hc : Calm X.A) (hr : Room k X.A)
    (hb : Binds X.K fd ps ds) (hd : Vals dvs ds) (hx : Passes CX X E)
    (ht : eval (.Call (.Attribute o m apos) [] [] pos) X.env = methTree X o m apos pos [] pl := by rfl) :
    PE X (.Call (.Attribute o m apos) [] [] pos) (tMeth C m sp dvs E ta tNil) := by
  constructor
  intro pins s σ H Q I h
  refine PySem.W.methodCall_KW (pl := pl) (thn (he.run pins s σ H _ I h) ?_) ht
  rintro u s1 ⟨y, H1, I1, rx, a, dx, fs, rfl, ea, l, q⟩
  obtain rfl : u = Value.ref a := rx
  refine getmeth_ok I1 ea c hm l ?_
  have rv2 : Vals [V.ref a] [Value.ref a] := .cons rfl .nil
  exact PySem.W.callWith_K0 (first := [.ref a]) I1.kIn hm.kp (callR_fn F hc hr hb hd hx pins s1 σ H1 _ _ Q I1 rv2 q)

/-- C(..), a class of the module with an __init__ of its own, as something that is called with values -/
theorem callR_make (M : Mk X.K C f) (F : Fn X.prog X.w X.K X.mg X.base CX k f fd ps sp) (hc : Calm X.A)
    (hr : Room (k + 1) X.A) (hb : Binds X.K fd ps ds) (hd : Vals dvs ds) (hx : Passes CX X E) :
    CallR X (.ref C) (fun vs H Q => ∀ x dx, H x = none → H dx = none → dx ≠ x →
      sp (.ref x :: (vs ++ dvs)) (upd (upd H dx (.own x)) x (.ins C dx [])) (fun v H2 => v = .non ∧ Q (.ref x) H2) E) := by
  intro pins s σ H vs us Q I rv h
  have n1 := I.hok.fresh (Nat.le_succ s.heap.objs.size)
  have n2 := I.hok.fresh (Nat.le_refl s.heap.objs.size)
  have hq := h (s.heap.objs.size + 1) s.heap.objs.size n1 n2 (Nat.ne_of_lt (Nat.lt_succ_self _))
  have J := Inv.made (C := C) I
  have r2 : Vals (V.ref (s.heap.objs.size + 1) :: (vs ++ dvs)) (Value.ref (s.heap.objs.size + 1) :: (us ++ ds)) :=
    .cons rfl (rv.append hd)
  have hl : (Value.ref (s.heap.objs.size + 1) :: us ++ ds).length = ps.length :=
    (r2.length.symm).trans (F.len _ _ _ _ hq)
  have cg : Calm (X.A.under (.builtin "type.__call__" ⟨.ref C :: us, []⟩)) := by
    first
      | exact hc
      | (show (X.A.under _).guards = _; simp [Around.under, Code.guards, Code.isGuard, guardIds, pushGuards, hc])
  have go := F.go _ X.stack _ _ ⟨Value.ref (s.heap.objs.size + 1) :: us, []⟩ _ _ _ E cg (hr.make C us [])
    (J.env0.make C us []) (hb _ (Value.ref (s.heap.objs.size + 1) :: us) J.kIn hl) r2 hq
  refine wpAny_call (make_map (f := f) I.kIn M.makes M.init (beq_iff_eq.mp M.fn) (codeAny_mono go ?_))
  rintro (e | fl) s' hq'
  · exact hx pins σ _ _ e s' J hq'
  · cases fl with
    | ret u =>
      obtain ⟨v, H', I3, rv3, rfl, q3⟩ := J.after hq'
      exact ⟨rv3, ⟨V.ref (s.heap.objs.size + 1), H', I3, rfl, q3⟩⟩
    | _ => exact False.elim hq'

/-- x(e, ..), whatever x is, if its value is known and it is called by values -/
theorem pe_val (hc : CallR X (.ref C) r) (hg : Gl X x) (hm : X.mg x = some (.ref C))
    (hk : PySem.W.keepIn X.K (.ref C) = true) (ha : PA X (e :: es) t)
    (hdb : (x == ("__debug__" : Str)) = false := by decide)
    (he : starEach (e :: es) X.env = (false, eval e X.env) :: starEach es X.env := by rfl)
    (hpl : (backTo pos (starEach es X.env)).any (·.1) = false := by rfl) :
    PE X (.Call (.Name x p) (e :: es) [] pos) (tCB r t) := by
  constructor
  intro pins s σ H Q I h
  refine wpAny_Call_Name_kw (ld_glob I hg hm ?_ hdb)
  refine PySem.W.callWith_K (h₀ := X.base) I.ok.mod.kin hk (thn (ha.run pos pins s σ H _ I h) ?_) he hpl
  rintro us s1 ⟨vs, H1, I1, rv, q⟩
  exact ⟨I1.kIn, hc pins s1 σ H1 vs us Q I1 rv q⟩
theorem pe_mk (M : Mk X.K C f) (F : Fn X.prog X.w X.K X.mg X.base CX k f fd ps sp) (hc : Calm X.A)
    (hr : Room (k + 1) X.A) (hg : Gl X x) (hm : X.mg x = some (.ref C)) (hb : Binds X.K fd ps ds)
    (hd : Vals dvs ds) (hx : Passes CX X E) (ha : PA X (e :: es) t)
    (hdb : (x == ("__debug__" : Str)) = false := by decide)
    (he : starEach (e :: es) X.env = (false, eval e X.env) :: starEach es X.env := by rfl)
    (hpl : (backTo pos (starEach es X.env)).any (·.1) = false := by rfl) :
    PE X (.Call (.Name x p) (e :: es) [] pos) (tMake C sp dvs E t) :=
  pe_val (callR_make M F hc hr hb hd hx) hg hm M.kp ha hdb he hpl
end

section
variable {P : Program} {w : World} {K : PySem.W.Frag} {mg : Str → Option Value} {base : Heap} {CX : CXT}
/-- a def by its body (any exceptions) -/
theorem fn_by {x qual : Str} {st : Stmt} {f : Addr} {fd : FuncData} {N ps : List Str} {k : Nat} {sp : Sp}
    (F : Fun K x qual st f fd) (S : FnScope N ps (defScope st))
    (len : ∀ vs H Q E, sp vs H Q E → vs.length = ps.length)
    (body : ∀ (cdv : Value) (A : Around) (outer : List Env) (s : Shared) (H : Hp) (vs : List V) (Q : VK) (E : XK),
      Calm A → Room k (A.deeper (envOfC qual (defScope st) s.heap.objs.size f cdv)) → sp vs H Q E →
      ∃ t, PSs (cxOf CX P w K mg base N qual (defScope st) f cdv A outer s H E) (defBody st) t ∧
        t { nx := fun _ H' => Q .non H', rt := Q } (start N vs) H) :
    Fn P w K mg base CX (k + 1) f fd ps sp := by
  obtain ⟨oc, od, kV, doc, pm, an, cdv, ct, osl, rfl, lk, hcd⟩ := F.ex
  refine ⟨len, fun A outer s H args us vs Q E hc hr e0 hb r hsp => ?_⟩
  have hl := len _ _ _ _ hsp
  have KX : K.In s.heap := e0.mod.kin.keeps fun b o e => (e0.bs b o e).1
  have lim : s.heap.NoLimit := e0.mod.nolimit.keeps fun b o e => (e0.bs b o e).1
  have hkind : ∀ y ∈ ps.zip us, (defScope st).names.lookup y.1 = some .local ∨
      ((defScope st).names.lookup y.1 = some .cell ∧
        ((cellsFrom (s.heap.objs.size + 1) (defScope st).names []).lookup y.1).isSome = true) := by
    rintro ⟨n, v⟩ hy
    rcases S.par n (List.of_mem_zip hy).1 with q | q
    · exact .inl q
    · exact .inr ⟨q, PySem.W.cellsFrom_some _ _ _ (.inl q)⟩
  have cr := PySem.W.codeRec_of KX hcd
  refine codeAny_call_function hr.depth (KX _ _ lk) rfl S.co S.gen rfl cr (hb _ _ _ _ ?_)
  refine wpAny_newFunctionEnv_cells S.kind hkind fun env he s1 z => ?_
  subst he
  refine ⟨lim.keeps z.toInCall.keep, codeAny_func ?_⟩
  obtain ⟨t, ht, hq⟩ := body cdv A outer s H vs Q E hc (hr.deeper _) hsp
  have I := inv_start (CX := CX) (E := E) S hr.hd e0 hl r z
  refine wpAny_mono (ht.run [] s1 (start N vs) H _ I hq) ?_ fun e s' hs => hs
  rintro fl s' hs
  cases fl with
  | ret u =>
    obtain ⟨v, σ', H', J, rv, q⟩ := hs
    exact ⟨v, H', J.os, J.bare, J.base, J.hok, rv, q⟩
  | next =>
    obtain ⟨σ', H', J, q⟩ := hs
    exact ⟨V.non, H', J.os, J.bare, J.base, J.hok, rfl, q⟩
  | brk =>
    obtain ⟨_, _, _, q⟩ := hs
    exact q.elim
  | cont =>
    obtain ⟨_, _, _, q⟩ := hs
    exact q.elim
/-- a def that no exception leaves -/
theorem fn_calm {x qual : Str} {st : Stmt} {f : Addr} {fd : FuncData} {N ps : List Str} {k : Nat} {sp : Sp}
    (F : Fun K x qual st f fd) (S : FnScope N ps (defScope st))
    (len : ∀ vs H Q E, sp vs H Q E → vs.length = ps.length)
    (body : ∀ (cdv : Value) (A : Around) (outer : List Env) (s : Shared) (H : Hp) (vs : List V) (Q : VK) (E : XK),
      Calm A → Room k (A.deeper (envOfC qual (defScope st) s.heap.objs.size f cdv)) → sp vs H Q E →
      ∃ t, PSs (cxOf CX0 P w K mg base N qual (defScope st) f cdv A outer s H E).nox (defBody st) t ∧
        t { nx := fun _ H' => Q .non H', rt := Q } (start N vs) H) :
    Fn P w K mg base CX0 (k + 1) f fd ps sp := by
  refine fn_by F S len fun cdv A outer s H vs Q E hc hr hsp => ?_
  obtain ⟨t, h, q⟩ := body cdv A outer s H vs Q E hc hr hsp
  exact ⟨t, h.nox, q⟩
end

/-! the end: from the promise of the law's def to the row -/
/-- what every base has: the table of modules -/
abbrev HasMods (base : Heap) : Prop := ∃ o, base.get? sysModules = some o
theorem ns_some {h : Heap} {b : Addr} {m : Str → Option Value} (n : h.Ns b m) : ∃ o es ep, h.get? b = some o ∧ o.data = .dict es ep := by
  obtain ⟨o, es, ep, e, d, _⟩ := n
  exact ⟨o, es, ep, e, d⟩

section
variable {P : Program} {w : World} {K : PySem.W.Frag} {mg mb : Str → Option Value} {k : Nat}
  {fa a : Addr} {fd : FuncData} {x : Str} {sp : Sp} {t : Shared} {vs : List Value} {ns : List Int}
/-- the law's def is called at the heap behind the top -/
theorem law_at (KX : K.In t.heap) (hns : t.heap.Ns mainGlobals mg) (hb : t.heap.Ns builtinsNs mb)
    (hbb : ∀ x : Str, x ≠ "__name__" → mb x = bootBuiltins x) (hlim : t.heap.NoLimit) {mm : Str → Option Value}
    (hmod : t.heap.Ns sysModules mm) (hg : t.gens = #[])
    (ha : t.heap.get? a = some { cls := .type "list", data := .seq vs.toArray }) (hi : IntsAre vs ns)
    (hl : ns.length ≤ sizeLine) (hr : Room k callerA)
    (F : ∀ base : Heap, K.In base → base.Ns mainGlobals mg → HasMods base → Fn P w K mg base CX0 k fa fd [x] sp)
    (hbind : ∀ (s : Shared) (u : Value), BindsTo s fd ⟨[u], []⟩ [(x, u)])
    (hsp : ∀ H : Hp, Only H → SqL K H a (ns.map V.int) → sp [.ref a] H (fun v _ => v = .bl true) fun _ _ _ => False) :
    codeAny (model P w) callerA (.call (.ref fa) ⟨[.ref a], []⟩)
      (fun r s' => r = .ok (.ret (.bool true)) ∧ OldK t.heap s'.heap ∧ s'.os = t.os ∧ AllBare s'.gens) t := by
  have rv := vals_ints hi
  have lenV := hi.length
  -- whatever is tracked at first, it is the script alone
  have core : ∀ H : Hp, Only H → SqL K H a (ns.map V.int) → HOk P w H t.heap → (∀ b, H b ≠ none → b = a) →
      (H a ≠ none → K.lookup a = none) →
      codeAny (model P w) callerA (.call (.ref fa) ⟨[.ref a], []⟩)
        (fun r s' => r = .ok (.ret (.bool true)) ∧ OldK t.heap s'.heap ∧ s'.os = t.os ∧ AllBare s'.gens) t := by
    intro H hO hS hok hA hK
    have noA : ∀ {b : Addr} {o : Obj} {es : Array DictEntry} {ep : Nat}, t.heap.get? b = some o → o.data = .dict es ep → H b = none := by
      intro b o es ep e d
      by_cases q : H b = none
      · exact q
      · have e' := hA b q
        rw [e', ha] at e
        cases e
        exact (nomatch (show Data.seq vs.toArray _ = Data.dict es ep from d))
    have nsK : ∀ {b : Addr} {m : Str → Option Value}, t.heap.Ns b m → (hidT t.heap H).Ns b m := by
      rintro b m ⟨o, es, ep, e, d, r⟩
      exact ⟨o, es, ep, hidT_get e (noA e d), d, r⟩
    have hKb : K.In (hidT t.heap H) := by
      intro b o e
      refine hidT_get (KX b o e) ?_
      by_cases q : H b = none
      · exact q
      · have e' := hA b q
        rw [e'] at e q
        rw [hK q] at e
        cases e
    have hM : Mod K mg (hidT t.heap H) := by
      obtain ⟨mc, h1, h2⟩ := hlim
      exact ⟨hKb, nsK hns, ⟨mb, nsK hb, hbb⟩, mc, nsK h1, h2⟩
    have hMods : HasMods (hidT t.heap H) := by
      obtain ⟨o, es, ep, e, d⟩ := ns_some hmod
      exact ⟨o, hidT_get e (noA e d)⟩
    have e0 : Env0 P w K mg (hidT t.heap H) callerA [] t H := by
      refine ⟨rfl, hM, fun b o e => of_hidT e, Nat.le_of_eq (hidT_size _ _), trivial, fun b hb' => ?_, hok, .of_eq hg⟩
      exact absurd (show b ∈ ([] : List Addr) from hb') (by simp)
    have go := (F _ hKb (nsK hns) hMods).go callerA [] t H ⟨[.ref a], []⟩ [.ref a] [.ref a] _ _ rfl hr e0
      (hbind t (.ref a)) (.cons rfl .nil) (hsp H hO hS)
    refine codeAny_mono go ?_
    rintro (e | fl) s' h
    · exact (show False from h).elim
    · cases fl with
      | ret u =>
        obtain ⟨v, H', os, bare, un, hok', r', rfl⟩ := h
        obtain rfl : u = Value.bool true := r'
        refine ⟨rfl, OldK.of_keep fun b o e => ?_, os, bare⟩
        by_cases q : H b = none
        · exact un.keep b o e q (by intro z; exact absurd (show b ∈ ([] : List Addr) from z) (by simp)) (by simp)
        · rcases hO b with z | ⟨ob, xs, z⟩
          · exact absurd z q
          · have z2 := un.frzs b ob _ z
            have e1 := (hok b _ z).1
            have e2 := (hok' b _ z2).1
            rw [e] at e1
            cases e1
            exact e2
      | _ => exact False.elim h
  cases hk : K.lookup a with
  | some o =>
    have e := KX a o hk
    rw [ha] at e
    cases e
    refine core (fun _ => none) (fun _ => .inl rfl) (.inr ?_) (fun b u z => ?_) (fun b z => absurd rfl z) fun z => absurd rfl z
    · exact ⟨_, vs.toArray, _, hk, rfl, rfl, rfl, by rw [List.size_toArray, lenV]; exact hl, by simpa using rv⟩
    · exact (nomatch (show (none : Option HO) = some u from z))
  | none =>
    let H : Hp := fun b => if b = a then some (.frz { cls := .type "list", data := .seq vs.toArray } (.lst (ns.map V.int))) else none
    have hHa : H a = some (.frz { cls := .type "list", data := .seq vs.toArray } (.lst (ns.map V.int))) := if_pos rfl
    have hHn : ∀ b, b ≠ a → H b = none := fun b n => if_neg n
    refine core H (fun b => ?_) (.inl (.inr ⟨_, hHa⟩)) (fun b u z => ?_) (fun b z => ?_) fun _ => hk
    · by_cases e : b = a
      · exact .inr ⟨_, _, by rw [e]; exact hHa⟩
      · exact .inl (hHn b e)
    · by_cases e : b = a
      · subst e
        rw [hHa] at z
        cases z
        exact ⟨ha, by rw [List.length_map]; exact hl, vs, _, rv, ha⟩
      · rw [hHn b e] at z
        cases z
    · by_cases e : b = a
      · exact e
      · exact absurd (hHn b e) z
end

/-- the goal that the head leaves, from the law's promise; the promise hangs on the written part alone -/
theorem walk_by {l : PySem.W.OpenLaw} {n k : Nat} {q : Program} {loose : List Str} {XP : (Str → Option Value) → Heap → Prop}
    {YP : World → Heap → Prop} {d : DefRec} {K : Params → PySem.W.Frag} {sp : PySem.W.Frag → Sp} {x : Str}
    (hn : l.most = some n) (hn2 : n ≤ sizeLine) (hdf : d.params.defaults = []) (hr : Room k callerA) (himp : importsNone q = true)
    (hY : ∀ (w : World) (h : Heap), YP w h → (K w.params).In h)
    (F : ∀ (w : World) (mg : Str → Option Value) (fa : Addr) (h : Heap), (K w.params).In h → h.Ns mainGlobals mg →
      mg d.name = some (.ref fa) → ∃ fd : FuncData, (∀ (s : Shared) (u : Value), BindsTo s fd ⟨[u], []⟩ [(x, u)]) ∧
        ∀ base : Heap, (K w.params).In base → base.Ns mainGlobals mg → HasMods base →
          Fn l.prog w (K w.params) mg base CX0 k fa fd [x] (sp (K w.params)))
    (hsp : ∀ (K : PySem.W.Frag) (H : Hp) (a : Addr) (ns : List Int), ns.length ≤ n → Only H → SqL K H a (ns.map V.int) →
      sp K [.ref a] H (fun v _ => v = .bl true) fun _ _ _ => False) :
    PySem.W.WalkO q loose XP YP l.row.toRowW d [] (fun f vs => PySem.call f vs) := by
  refine Att.attach_call hn hdf fun w s₀ t mg mb fa o pm cd doc a vs ns G Y ho hd hcd hmg hobj hints hlen hg => ?_
  have KX := hY w _ Y
  obtain ⟨fd, hb, hF⟩ := F w mg fa _ KX G.T.g hmg
  obtain ⟨mm, hmm⟩ : ∃ mm, t.heap.Ns sysModules mm := by
    obtain ⟨mm, z, _⟩ := (G.T.seer himp).mods
    exact ⟨mm, z⟩
  exact law_at KX G.T.g G.T.b G.T.builtins G.T.nolimit hmm hg hobj hints (Nat.le_trans hlen hn2) hr hF hb
    fun H hO hS => hsp _ H a ns hlen hO hS
end G

set_option Elab.async false
set_option linter.all false
set_option maxRecDepth 100000
set_option maxHeartbeats 4000000
/-! Data as trees, with instances as leaves: what stands in the heap, repr, ==, isinstance. -/
namespace D
open PySem PySem.Spec PyProof.Rows L2 G

inductive Dat where
  | non | bl (b : Bool) | int (i : Int) | str (x : Str)
  | lst (xs : List Dat) | tup (xs : List Dat)
  | dct (ks : List Key) (vs : List Dat)
  | obj (C a : Addr)

/-- what isinstance must know of a class of one's own -/
structure OwnC (K : PySem.W.Frag) (C : Addr) : Prop where
  cl : Cls K C
  ha : PySem.W.findIn K (.ref C) "__class__" = some (some (.builtin "object.__class__"))
  hn : PySem.W.specialIn K (.builtin "object.__class__") "__get__" = some (some (.builtin "getset_descriptor.__get__"))
  ht : PySem.W.takesIn K (.builtin "object.__class__") = some true
  hm : PySem.W.mroIn K C (.type "object") = some true
  i1 : PySem.W.kitOne K (.ref C) (.type "int") = some false
  i2 : PySem.W.kitOne K (.ref C) (.type "bool") = some false
  i3 : PySem.W.kitOne K (.ref C) (.type "str") = some false
  i4 : PySem.W.kitOne K (.ref C) (.type "list") = some false
  i5 : PySem.W.kitOne K (.ref C) (.type "tuple") = some false
  i6 : PySem.W.kitOne K (.ref C) (.type "dict") = some false

section
variable (K : PySem.W.Frag) (H : Hp)
mutual
/-- v stands for the tree, in H -/
def Rep : V → Dat → Prop
  | v, .non => v = .non
  | v, .bl b => v = .bl b
  | v, .int i => v = .int i
  | v, .str x => v = .str x
  | v, .lst ds => ∃ a xs, v = .ref a ∧ H a = some (.lst xs) ∧ RepAll xs ds
  | v, .tup ds => ∃ a xs, v = .ref a ∧ H a = some (.tup xs) ∧ RepAll xs ds
  | v, .dct ks ds => ∃ a kvs, v = .ref a ∧ H a = some (.dK kvs) ∧ kvs.map (·.1) = ks ∧ RepAll (kvs.map (·.2)) ds
  | v, .obj C a => v = .ref a ∧ OwnC K C ∧ ∃ dx fs, H a = some (.ins C dx fs)
def RepAll : List V → List Dat → Prop
  | vs, [] => vs = []
  | vs, d :: ds => ∃ v r, vs = v :: r ∧ Rep v d ∧ RepAll r ds
end
end

section
variable {K : PySem.W.Frag} {H H' : Hp}
mutual
theorem Rep.mono (h : Same H H') : ∀ (d : Dat) {v : V}, Rep K H v d → Rep K H' v d
  | .non, _, r => r
  | .bl _, _, r => r
  | .int _, _, r => r
  | .str _, _, r => r
  | .lst ds, _, ⟨a, xs, e, q, r⟩ => ⟨a, xs, e, h _ _ q, RepAll.mono h ds r⟩
  | .tup ds, _, ⟨a, xs, e, q, r⟩ => ⟨a, xs, e, h _ _ q, RepAll.mono h ds r⟩
  | .dct _ ds, _, ⟨a, kvs, e, q, k, r⟩ => ⟨a, kvs, e, h _ _ q, k, RepAll.mono h ds r⟩
  | .obj _ _, _, ⟨e, o, dx, fs, q⟩ => ⟨e, o, dx, fs, h _ _ q⟩
theorem RepAll.mono (h : Same H H') : ∀ (ds : List Dat) {vs : List V}, RepAll K H vs ds → RepAll K H' vs ds
  | [], _, r => r
  | d :: ds, _, ⟨v, r, e, q, t⟩ => ⟨v, r, e, Rep.mono h d q, RepAll.mono h ds t⟩
end
theorem RepAll.length : ∀ {ds : List Dat} {vs : List V}, RepAll K H vs ds → vs.length = ds.length
  | [], _, r => by cases (show _ = [] from r); rfl
  | _ :: ds, _, ⟨v, r, e, _, t⟩ => by subst e; simp [RepAll.length t]
theorem RepAll.get : ∀ {ds : List Dat} {vs : List V} {i : Nat} {v : V}, RepAll K H vs ds → vs[i]? = some v → ∃ d, ds[i]? = some d ∧ Rep K H v d
  | [], _, i, v, r, e => by cases (show _ = [] from r); simp at e
  | d :: ds, _, 0, v, ⟨w, r, e', q, t⟩, e => by subst e'; simp at e; subst e; exact ⟨d, rfl, q⟩
  | d :: ds, _, i + 1, v, ⟨w, r, e', q, t⟩, e => by
    subst e'
    obtain ⟨d', h1, h2⟩ := RepAll.get (i := i) (v := v) t (by simpa using e)
    exact ⟨d', by simpa using h1, h2⟩
theorem RepAll.nth : ∀ {ds : List Dat} {vs : List V} {i : Nat} {d : Dat}, RepAll K H vs ds → ds[i]? = some d → ∃ v, vs[i]? = some v ∧ Rep K H v d
  | [], _, i, d, r, e => by simp at e
  | d :: ds, _, 0, d', ⟨w, r, e', q, t⟩, e => by subst e'; simp at e; subst e; exact ⟨w, rfl, q⟩
  | d :: ds, _, i + 1, d', ⟨w, r, e', q, t⟩, e => by
    subst e'
    obtain ⟨v, h1, h2⟩ := RepAll.nth (i := i) (d := d') t (by simpa using e)
    exact ⟨v, by simpa using h1, h2⟩
theorem RepAll.append : ∀ {ds es : List Dat} {vs us : List V}, RepAll K H vs ds → RepAll K H us es → RepAll K H (vs ++ us) (ds ++ es)
  | [], _, _, _, r, q => by cases (show _ = [] from r); exact q
  | _ :: ds, _, _, _, ⟨v, r, e, a, t⟩, q => by subst e; exact ⟨v, _, rfl, a, RepAll.append t q⟩
theorem RepAll.one {v : V} {d : Dat} (h : Rep K H v d) : RepAll K H [v] [d] := ⟨v, [], rfl, h, rfl⟩
theorem RepAll.set : ∀ {ds : List Dat} {vs : List V} (i : Nat) {v : V} {d : Dat}, RepAll K H vs ds → Rep K H v d → RepAll K H (vs.set i v) (ds.set i d)
  | [], _, i, v, d, r, q => by cases (show _ = [] from r); exact rfl
  | _ :: ds, _, 0, v, d, ⟨w, r, e, a, t⟩, q => by subst e; exact ⟨v, r, rfl, q, t⟩
  | _ :: ds, _, i + 1, v, d, ⟨w, r, e, a, t⟩, q => by subst e; exact ⟨w, _, rfl, a, RepAll.set i t q⟩
theorem RepAll.take : ∀ {ds : List Dat} {vs : List V} (n : Nat), RepAll K H vs ds → RepAll K H (vs.take n) (ds.take n)
  | [], _, n, r => by cases (show _ = [] from r); simp; exact rfl
  | _ :: ds, _, 0, ⟨w, r, e, a, t⟩ => by subst e; exact rfl
  | _ :: ds, _, n + 1, ⟨w, r, e, a, t⟩ => by subst e; exact ⟨w, _, rfl, a, RepAll.take n t⟩
theorem RepAll.drop : ∀ {ds : List Dat} {vs : List V} (n : Nat), RepAll K H vs ds → RepAll K H (vs.drop n) (ds.drop n)
  | [], _, n, r => by cases (show _ = [] from r); simp; exact rfl
  | _ :: ds, _, 0, ⟨w, r, e, a, t⟩ => by subst e; exact ⟨w, r, rfl, a, t⟩
  | _ :: ds, _, n + 1, ⟨w, r, e, a, t⟩ => by subst e; exact RepAll.drop n t
/-- texts alone -/
theorem RepAll.strs : ∀ {xs : List Str} {vs : List V}, RepAll K H vs (xs.map Dat.str) → vs = xs.map V.str
  | [], _, r => r
  | x :: xs, _, ⟨v, r, e, q, t⟩ => by
    subst e
    rw [show v = V.str x from q, RepAll.strs (xs := xs) t]
    rfl
theorem RepAll.of_strs : ∀ (xs : List Str), RepAll K H (xs.map V.str) (xs.map Dat.str)
  | [] => rfl
  | x :: xs => ⟨_, _, rfl, rfl, RepAll.of_strs xs⟩
theorem RepAll.of_bls : ∀ (xs : List Bool), RepAll K H (xs.map V.bl) (xs.map Dat.bl)
  | [] => rfl
  | x :: xs => ⟨_, _, rfl, rfl, RepAll.of_bls xs⟩
end

/-! ### data of the library -/
def keyD : Key → PyData
  | .inl i => .int i
  | .inr x => .str x
mutual
def Dat.py : Dat → PyData
  | .non => .none
  | .bl b => .bool b
  | .int i => .int i
  | .str x => .str x
  | .lst ds => .list (pyAll ds)
  | .tup ds => .tuple (pyAll ds)
  | .dct ks ds => .dict ((ks.map keyD).zip (pyAll ds))
  | .obj _ _ => .none
def pyAll : List Dat → List PyData
  | [] => []
  | d :: ds => d.py :: pyAll ds
end
mutual
/-- no instance in it -/
def Dat.pure : Dat → Bool
  | .lst ds => pureAll ds
  | .tup ds => pureAll ds
  | .dct _ ds => pureAll ds
  | .obj _ _ => false
  | _ => true
def pureAll : List Dat → Bool
  | [] => true
  | d :: ds => d.pure && pureAll ds
end
theorem pyAll_map : ∀ ds : List Dat, pyAll ds = ds.map Dat.py
  | [] => rfl
  | d :: ds => by rw [pyAll, pyAll_map ds]; rfl
theorem pureAll_all : ∀ ds : List Dat, pureAll ds = ds.all Dat.pure
  | [] => rfl
  | d :: ds => by rw [pureAll, pureAll_all ds]; rfl

section
variable {X : Cx} {pins : List (Addr × Obj)} {σ : L2.St} {H : Hp} {s : Shared}
theorem tracked_ne (I : Inv X pins σ H s) {a : Addr} {o : HO} (h : H a = some o) : a ≠ sysModules ∨ True := .inr trivial

theorem keys_read {h : Heap} : ∀ {es : List DictEntry} {kvs : List (Key × Value)} {P : Program} {w : World}, Pairs (mixKind P w) es kvs →
    ReadsAll h (es.map (·.key)) ((kvs.map (·.1)).map keyD) [] ∧ es.map (·.val) = kvs.map (·.2) := by
  intro es kvs P w h1
  induction h1 with
  | nil => exact ⟨.nil, rfl⟩
  | @cons e kv es kvs hk hv _ ih =>
    refine ⟨?_, by rw [List.map_cons, List.map_cons, ih.2, hv]⟩
    have hk' : keyIs kv.1 e.key = true := hk
    have q : Reads h e.key (keyD kv.1) [] := by
      rcases keyIs_shape hk' with ⟨i, t, e1, e2⟩ | ⟨x, t, e1, e2⟩
      · rw [e1, e2]; exact Reads.int i t
      · rw [e1, e2]; exact Reads.str x t
    exact ReadsAll.cons (as := []) (bs := []) q ih.1
theorem kv_vals : ∀ {kvs : List (Key × V)} {vs : List (Key × Value)}, KV kvs vs → kvs.map (·.1) = vs.map (·.1) ∧ Vals (kvs.map (·.2)) (vs.map (·.2)) := by
  intro kvs vs h
  unfold KV at h
  induction h with
  | nil => exact ⟨rfl, .nil⟩
  | cons a _ ih => exact ⟨by rw [List.map_cons, List.map_cons, a.1, ih.1], .cons a.2 ih.2⟩

mutual
theorem Rep.reads (I : Inv X pins σ H s) : ∀ (d : Dat) (v : V) (u : Value), Rep X.K H v d → d.pure = true → RelV v u →
    ∃ as, Reads s.heap u d.py as ∧ ∀ b ∈ as, ∃ o, H b = some o ∧ ((∃ xs, o = .lst xs) ∨ ∃ kvs, o = .dK kvs)
  | .non, v, u, h, p, r => by
    cases (show v = .non from h)
    cases (show u = _ from r)
    exact ⟨[], .none, fun _ z => by simp at z⟩
  | .bl b, v, u, h, p, r => by
    cases (show v = .bl b from h)
    cases (show u = _ from r)
    exact ⟨[], .bool b, fun _ z => by simp at z⟩
  | .int i, v, u, h, p, r => by
    cases (show v = .int i from h)
    obtain ⟨t, rfl⟩ := (show ∃ t, u = Value.int i t from r)
    exact ⟨[], .int i t, fun _ z => by simp at z⟩
  | .str x, v, u, h, p, r => by
    cases (show v = .str x from h)
    obtain ⟨t, rfl⟩ := (show ∃ t, u = Value.str x t from r)
    exact ⟨[], .str x t, fun _ z => by simp at z⟩
  | .lst ds, v, u, h, p, r => by
    obtain ⟨a, xs, rfl, ha, hs⟩ := h
    cases (show u = Value.ref a from r)
    obtain ⟨_, its, n, rv, ho⟩ := (show ObjOk X.prog X.w H s.heap a (.lst xs) from I.hok a _ ha)
    obtain ⟨as, q, k⟩ := RepAll.reads I ds xs its hs p rv
    refine ⟨a :: as, .list ho rfl rfl q, fun b z => ?_⟩
    rcases List.mem_cons.mp z with rfl | z
    · exact ⟨_, ha, .inl ⟨_, rfl⟩⟩
    · exact k b z
  | .tup ds, v, u, h, p, r => by
    obtain ⟨a, xs, rfl, ha, hs⟩ := h
    cases (show u = Value.ref a from r)
    obtain ⟨_, its, rv, o, ho, hc, n, hd⟩ := (show ObjOk X.prog X.w H s.heap a (.tup xs) from I.hok a _ ha)
    obtain ⟨as, q, k⟩ := RepAll.reads I ds xs its hs p rv
    exact ⟨as, .tuple ho hc hd q, k⟩
  | .dct ks ds, v, u, h, p, r => by
    obtain ⟨a, kvs, rfl, ha, hk, hs⟩ := h
    cases (show u = Value.ref a from r)
    obtain ⟨_, _, vs, rv, o, es, ep, ho, hx, hd, _, hp, _⟩ := (show ObjOk X.prog X.w H s.heap a (.dK kvs) from I.hok a _ ha)
    obtain ⟨e1, e2⟩ := kv_vals rv
    obtain ⟨k1, k2⟩ := keys_read (h := s.heap) hp
    obtain ⟨as, q, k⟩ := RepAll.reads I ds _ _ hs p e2
    have len : (ks.map keyD).length = (pyAll ds).length := by
      rw [pyAll_map, List.length_map, List.length_map, ← hs.length, ← hk, List.length_map, List.length_map]
    refine ⟨a :: [] ++ as, .dict ho hx.1 hd (?_ : ReadsAll _ _ _ []) (?_ : ReadsAll _ _ _ as), fun b z => ?_⟩
    · rw [List.map_fst_zip (Nat.le_of_eq len), ← hk, e1]; exact k1
    · rw [List.map_snd_zip (Nat.le_of_eq len.symm), k2]; exact q
    · rcases List.mem_cons.mp z with rfl | z
      · exact ⟨_, ha, .inr ⟨_, rfl⟩⟩
      · exact k b z
  | .obj C a, _, _, _, p, _ => by cases (show false = true from p)
theorem RepAll.reads (I : Inv X pins σ H s) : ∀ (ds : List Dat) (vs : List V) (us : List Value), RepAll X.K H vs ds → pureAll ds = true → Vals vs us →
    ∃ as, ReadsAll s.heap us (pyAll ds) as ∧ ∀ b ∈ as, ∃ o, H b = some o ∧ ((∃ xs, o = .lst xs) ∨ ∃ kvs, o = .dK kvs)
  | [], vs, us, h, _, r => by
    cases (show vs = [] from h)
    cases r
    exact ⟨[], .nil, fun _ z => by simp at z⟩
  | d :: ds, vs, us, h, p, r => by
    obtain ⟨v, t, rfl, h1, h2⟩ := h
    have p' : (d.pure && pureAll ds) = true := p
    rw [Bool.and_eq_true] at p'
    cases r with
    | cons r1 r2 =>
      obtain ⟨as, q1, k1⟩ := Rep.reads I d v _ h1 p'.1 r1
      obtain ⟨bs, q2, k2⟩ := RepAll.reads I ds t _ h2 p'.2 r2
      refine ⟨as ++ bs, .cons q1 q2, fun b z => ?_⟩
      rcases List.mem_append.mp z with z | z
      · exact k1 b z
      · exact k2 b z
end
end

/-! ### repr -/
def Dat.dep : Dat → Nat := fun d => d.py.depth
/-- fit to be shown: no instance, small enough at every place -/
structure Fine (k n : Nat) (d : Dat) : Prop where
  pu : d.pure = true
  sh : d.py.showable = true
  dp : d.py.depth ≤ k
  ln : d.py.shown.length ≤ n
theorem Fine.mono {k n k' n' : Nat} {d : Dat} (h : Fine k n d) (a : k ≤ k') (b : n ≤ n') : Fine k' n' d :=
  ⟨h.pu, h.sh, Nat.le_trans h.dp a, Nat.le_trans h.ln b⟩
theorem fine_all {k n : Nat} : ∀ {ds : List Dat}, (∀ d ∈ ds, Fine k n d) → pureAll ds = true ∧ PyData.showableAll (pyAll ds) = true ∧
    PyData.depthAll (pyAll ds) ≤ k ∧ ((PyData.shownAll (pyAll ds)).map (·.length)).sum ≤ ds.length * n ∧ (PyData.shownAll (pyAll ds)).length = ds.length
  | [], _ => ⟨rfl, by simp [pyAll, PyData.showableAll], by simp [pyAll, PyData.depthAll], by simp [pyAll, PyData.shownAll], by simp [pyAll, PyData.shownAll]⟩
  | d :: ds, h => by
    obtain ⟨a, b, c, e, f⟩ := fine_all (ds := ds) fun x hx => h x (List.mem_cons_of_mem _ hx)
    have q := h d List.mem_cons_self
    refine ⟨?_, ?_, ?_, ?_, ?_⟩
    · simp [pureAll, a, q.pu]
    · simp [pyAll, PyData.showableAll, b, q.sh]
    · simp only [pyAll, PyData.depthAll]
      have := q.dp
      omega
    · simp only [pyAll, PyData.shownAll, List.map_cons, List.sum_cons, List.length_cons]
      have := q.ln
      rw [Nat.add_mul]
      omega
    · simp only [pyAll, PyData.shownAll, List.length_cons, f]
theorem fine_lst {k n m : Nat} {ds : List Dat} (h : ∀ d ∈ ds, Fine k n d) (hm : ds.length ≤ m) : Fine (k + 1) (m * (n + 2) + 3) (.lst ds) := by
  obtain ⟨a, b, c, e, f⟩ := fine_all h
  refine ⟨a, ?_, ?_, ?_⟩
  · simp only [Dat.py, PyData.showable, b]
  · simp only [Dat.py, PyData.depth]; omega
  · simp only [Dat.py, PyData.shown]
    refine Nat.le_trans (listText_len_le _) ?_
    have h1 : ds.length * n ≤ m * n := Nat.mul_le_mul_right _ hm
    rw [f, Nat.mul_add]
    omega
theorem fine_tup {k n m : Nat} {ds : List Dat} (h : ∀ d ∈ ds, Fine k n d) (hm : ds.length ≤ m) : Fine (k + 1) (m * (n + 2) + 3) (.tup ds) := by
  obtain ⟨a, b, c, e, f⟩ := fine_all h
  refine ⟨a, ?_, ?_, ?_⟩
  · simp only [Dat.py, PyData.showable, b]
  · simp only [Dat.py, PyData.depth]; omega
  · simp only [Dat.py, PyData.shown]
    refine Nat.le_trans (tupleText_len_le _) ?_
    have h1 : ds.length * n ≤ m * n := Nat.mul_le_mul_right _ hm
    rw [f, Nat.mul_add]
    omega
theorem fine_str {n : Nat} {x : Str} (h : (reprText x).length ≤ n) : Fine 1 n (.str x) := ⟨rfl, by simp [Dat.py, PyData.showable], by simp [Dat.py, PyData.depth], by simpa [Dat.py, PyData.shown] using h⟩
theorem fine_bl (b : Bool) : Fine 1 5 (.bl b) := by
  refine ⟨rfl, by simp [Dat.py, PyData.showable], by simp [Dat.py, PyData.depth], ?_⟩
  cases b <;> simp only [Dat.py, PyData.shown] <;> decide
theorem fine_non : Fine 1 5 .non := by
  refine ⟨rfl, by simp [Dat.py, PyData.showable], by simp [Dat.py, PyData.depth], ?_⟩
  simp only [Dat.py, PyData.shown]; decide

section
variable {X : Cx}
def rRepr (K : PySem.W.Frag) : List V → Hp → VK → Prop := fun vs H Q => ∃ v d, vs = [v] ∧ Rep K H v d ∧ Fine 100 sizeLine d ∧ Q (.str d.py.shown) H
theorem low_mods (I : Inv X pins σ H s) (hM : HasMods X.base) {b : Addr} {o : HO} (h : H b = some o) : b ≠ sysModules := by
  rintro rfl
  obtain ⟨o', e⟩ := hM
  rw [(I.bs _ _ e).2] at h
  cases h
theorem call_repr (hc : Calm X.A) (hM : HasMods X.base) (hu : X.A.units + 110 < cLine) : CallR X (.builtin "repr") (rRepr X.K) := by
  intro pins s σ H vs us Q I r h
  obtain ⟨v, d, rfl, hv, hf, q⟩ := h
  obtain ⟨u, rfl, ru⟩ := vals1 r
  obtain ⟨as, hr, k⟩ := Rep.reads I d v u hv hf.pu ru
  have hsm : d.py.hasDict = true → sysModules ∉ as := fun _ z => by
    obtain ⟨o, e, _⟩ := k _ z
    exact low_mods I hM e rfl
  have fin : ∀ (h' : Heap) (t : Tok) (tk : Nat), (∀ b o, s.heap.get? b = some o → h'.get? b = some o) →
      EP X pins σ Q (.str d.py.shown t) { s with heap := h', toks := tk } := fun h' t tk hk =>
    ⟨.str _, H, I.kept hk, ⟨t, rfl⟩, q⟩
  have hdp := hf.dp
  have byRef : ∀ a, u = Value.ref a → wpAny (model X.prog X.w) X.A (call (.builtin "repr") [u]) (EP X pins σ Q) X.xe s := by
    rintro a rfl
    exact repr_of_reads' hr hf.sh hsm hc (by omega) (fun _ _ e => e) fin hf.ln
  cases d with
  | obj C a => cases (show false = true from hf.pu)
  | lst ds => obtain ⟨a, _, rfl, _⟩ := hv; exact byRef a ru
  | tup ds => obtain ⟨a, _, rfl, _⟩ := hv; exact byRef a ru
  | dct ks ds => obtain ⟨a, _, rfl, _⟩ := hv; exact byRef a ru
  | non =>
    cases (show v = V.non from hv)
    cases (show u = _ from ru)
    exact P.repr_of_none ⟨.str _, H, I.tok _, ⟨s.toks, by simp only [Dat.py, PyData.shown]⟩, q⟩
  | bl b =>
    cases (show v = V.bl b from hv)
    cases (show u = _ from ru)
    exact P.repr_of_bool ⟨.str _, H, I.tok _, ⟨s.toks, by cases b <;> simp only [Dat.py, PyData.shown]⟩, q⟩
  | int i =>
    cases (show v = V.int i from hv)
    obtain ⟨t, rfl⟩ := (show ∃ t, u = Value.int i t from ru)
    have hs := hf.sh
    simp only [Dat.py, PyData.showable, decide_eq_true_eq] at hs
    exact P.repr_of_int hs ⟨.str _, H, I.tok _, ⟨s.toks, by simp only [Dat.py, PyData.shown]⟩, q⟩
  | str x =>
    cases (show v = V.str x from hv)
    obtain ⟨t, rfl⟩ := (show ∃ t, u = Value.str x t from ru)
    have hl := hf.ln
    simp only [Dat.py, PyData.shown] at hl
    exact P.repr_of_str ⟨.str _, H, I.tok _, ⟨s.toks, by simp only [Dat.py, PyData.shown]⟩, q⟩ hl
end

/-! ### what isinstance says -/
def Dat.ty : Dat → Value
  | .non => .type "NoneType"
  | .bl _ => .type "bool"
  | .int _ => .type "int"
  | .str _ => .type "str"
  | .lst _ => .type "list"
  | .tup _ => .type "tuple"
  | .dct _ _ => .type "dict"
  | .obj C _ => .ref C
def Dat.isStr : Dat → Bool
  | .str _ => true
  | _ => false
def Dat.isTup : Dat → Bool
  | .tup _ => true
  | _ => false
def Dat.isSeq : Dat → Bool
  | .tup _ => true
  | .lst _ => true
  | _ => false
def Dat.isInt : Dat → Bool
  | .int _ => true
  | .bl _ => true
  | _ => false
def Dat.isBl : Dat → Bool
  | .bl _ => true
  | _ => false
section
variable {K : PySem.W.Frag} {H : Hp}
theorem Rep.ty {d : Dat} {v : V} (h : Rep K H v d) : TyX K H v d.ty := by
  cases d with
  | non => cases (show v = V.non from h); exact .base .non
  | bl b => cases (show v = V.bl b from h); exact .base (.bl b)
  | int i => cases (show v = V.int i from h); exact .base (.int i)
  | str x => cases (show v = V.str x from h); exact .base (.str x)
  | lst ds => obtain ⟨a, xs, rfl, e, _⟩ := h; exact .base (.lst e)
  | tup ds => obtain ⟨a, xs, rfl, e, _⟩ := h; exact .base (.tup e)
  | dct ks ds => obtain ⟨a, xs, rfl, e, _⟩ := h; exact .base (.dK e)
  | obj C a => obtain ⟨rfl, o, dx, fs, e⟩ := h; exact .base (.ins e o.cl o.ha o.hn o.ht o.hm)
theorem kit_str {d : Dat} {v : V} (h : Rep K H v d) : PySem.W.kitOne K d.ty (.type "str") = some d.isStr := by
  cases d with
  | obj C a => exact h.2.1.i3
  | _ => first | exact kit_ty (r := true) (by decide +kernel) | exact kit_ty (r := false) (by decide +kernel)
theorem kit_tup {d : Dat} {v : V} (h : Rep K H v d) : PySem.W.kitOne K d.ty (.type "tuple") = some d.isTup := by
  cases d with
  | obj C a => exact h.2.1.i5
  | _ => first | exact kit_ty (r := true) (by decide +kernel) | exact kit_ty (r := false) (by decide +kernel)
theorem kit_int {d : Dat} {v : V} (h : Rep K H v d) : PySem.W.kitOne K d.ty (.type "int") = some d.isInt := by
  cases d with
  | obj C a => exact h.2.1.i1
  | _ => first | exact kit_ty (r := true) (by decide +kernel) | exact kit_ty (r := false) (by decide +kernel)
theorem kit_bl {d : Dat} {v : V} (h : Rep K H v d) : PySem.W.kitOne K d.ty (.type "bool") = some d.isBl := by
  cases d with
  | obj C a => exact h.2.1.i2
  | _ => first | exact kit_ty (r := true) (by decide +kernel) | exact kit_ty (r := false) (by decide +kernel)
theorem kit_seq {d : Dat} {v : V} (h : Rep K H v d) : PySem.W.kitAny K d.ty [.type "list", .type "tuple"] = some d.isSeq := by
  cases d with
  | obj C a => exact kitAny_cons h.2.1.i4 (fun _ => kitAny_cons h.2.1.i5 (fun _ => rfl) fun z => by cases z) fun z => by cases z
  | lst ds => exact kitAny_cons (b := true) (kit_ty (by decide +kernel)) (fun z => by cases z) fun _ => rfl
  | tup ds => exact kitAny_cons (b := false) (kit_ty (by decide +kernel)) (fun _ => kitAny_cons (b := true) (kit_ty (by decide +kernel)) (fun z => by cases z) fun _ => rfl) fun z => by cases z
  | _ => exact kitAny_cons (b := false) (kit_ty (by decide +kernel)) (fun _ => kitAny_cons (b := false) (kit_ty (by decide +kernel)) (fun _ => rfl) fun z => by cases z) fun z => by cases z
end

/-! ### == against a text, against the empty tuple, the empty list -/
def Dat.isThe (t : Str) : Dat → Bool
  | .str x => x == t
  | _ => false
def Dat.noObj : Dat → Bool
  | .obj _ _ => false
  | _ => true
section
open PySem.SeqAt PySem.MeetsSeq
theorem dict_declines_str (l : Addr) (es : Array DictEntry) (n : Nat) (dd : Option Addr) (sl : Array (Option Value)) (b : Str) (u : Tok) :
    Meets (Builtin.«dict.__eq__» ⟨[.ref l, .str b u], []⟩)
      (fun _ R s => s.heap.get? l = some { cls := .type "dict", dict := dd, data := .dict es n, slots := sl } ∧ R (.ok (.ret .notImplemented)) s) :=
  .of_wp fun prog w A R s h => by
    obtain ⟨hp, g, d, tk, os⟩ := s
    obtain ⟨hl, h⟩ := h
    have f1 := F.sub_str_dict
    wp_walk using wpAny_loadPart' hl
    exact ⟨_, rfl, h⟩
theorem str_declines_dict (b : Str) (u : Tok) (l : Addr) (es : Array DictEntry) (n : Nat) (dd : Option Addr) (sl : Array (Option Value)) :
    Meets (Builtin.«str.__eq__» ⟨[.str b u, .ref l], []⟩)
      (fun _ R s => s.heap.get? l = some { cls := .type "dict", dict := dd, data := .dict es n, slots := sl } ∧ R (.ok (.ret .notImplemented)) s) :=
  .of_wp fun prog w A R s h => by
    obtain ⟨hp, g, d, tk, os⟩ := s
    obtain ⟨hl, h⟩ := h
    wp_walk using wpAny_loadPart' hl, wpAny_load hl
    exact ⟨_, rfl, h⟩
theorem rc_dict_str {A : Around} {s : Shared} {l : Addr} {o : Obj} {es : Array DictEntry} {n : Nat} (b : Str) (u : Tok)
    (ho : s.heap.get? l = some o) (hx : o.cls = .type "dict") (hd : o.data = .dict es n) (hu : A.units < cLine) :
    RcAt A s (.ref l) (.str b u) false := fun prog w E Q h => by
  obtain ⟨cls, dd, data, sl⟩ := o
  simp only at hx hd
  subst hx hd
  exact rc_eq_decline_or (k := false) ⟨_, ho, rfl⟩ (typeIs_str s b u) (by decide) F.sub_str_dict F.slot_dict_eq F.slot_str_eq_refl
    (fun _ hq => call_meets F.slot_dict_eq ⟨_, ho, rfl⟩ F.entry_dict_eq (F.args_dict_eq_2 _ _) (dict_declines_str l es n dd sl b u) ⟨ho, hq⟩)
    (fun _ hq => call_meets F.slot_str_eq_refl (typeIs_str s b u) F.entry_str_eq (F.args_str_eq_2 _ _) (str_declines_dict b u l es n dd sl) ⟨ho, hq⟩)
    (fun _ hq => wpAny_of_eq (rfl : isSame (.ref l) (.str b u) = pure false) hq) (.inr hu) h
end
section
variable {X : Cx} {pins : List (Addr × Obj)} {σ : L2.St} {H : Hp} {s : Shared}
open PySem.SeqAt
theorem rc_str (I : Inv X pins σ H s) {A : Around} (hu : A.units < cLine) {d : Dat} {v : V} {u : Value} {t : Str} {tk : Tok} (h : Rep X.K H v d) (hn : d.noObj = true)
    (r : RelV v u) : RcAt A s u (.str t tk) (d.isThe t) := by
  cases d with
  | non =>
    cases (show v = V.non from h)
    cases (show u = _ from r)
    exact .none_str t tk
  | bl b =>
    cases (show v = V.bl b from h)
    cases (show u = _ from r)
    exact .bool_str b t tk
  | int i =>
    cases (show v = V.int i from h)
    obtain ⟨k, rfl⟩ := (show ∃ t, u = Value.int i t from r)
    exact .int_str i k t tk
  | str x =>
    cases (show v = V.str x from h)
    obtain ⟨k, rfl⟩ := (show ∃ t, u = Value.str x t from r)
    exact .str_str x k t tk
  | lst ds =>
    obtain ⟨a, xs, rfl, e, _⟩ := h
    cases (show u = Value.ref a from r)
    obtain ⟨_, its, n, rv, ho⟩ := (show ObjOk X.prog X.w H s.heap a (.lst xs) from I.hok a _ e)
    exact .list_str t tk ⟨_, ho, rfl, _, rfl⟩ hu
  | tup ds =>
    obtain ⟨a, xs, rfl, e, _⟩ := h
    cases (show u = Value.ref a from r)
    obtain ⟨_, its, rv, o, ho, hc, n, hd⟩ := (show ObjOk X.prog X.w H s.heap a (.tup xs) from I.hok a _ e)
    exact .tuple_str (items := its.toArray) t tk ⟨o, ho, hc, n, hd⟩ hu
  | dct ks ds =>
    obtain ⟨a, kvs, rfl, e, _⟩ := h
    cases (show u = Value.ref a from r)
    obtain ⟨_, _, vs, rv, o, es, ep, ho, hx, hd, _⟩ := (show ObjOk X.prog X.w H s.heap a (.dK kvs) from I.hok a _ e)
    exact rc_dict_str t tk ho hx.1 hd hu
  | obj C a => cases (show false = true from hn)
end
section
variable {X : Cx}
def rEqStr (K : PySem.W.Frag) : R2 := fun x y H Q => ∃ d t, Rep K H x d ∧ d.noObj = true ∧ y = .str t ∧ Q (.bl (d.isThe t)) H
theorem op_eq_str (hu : X.A.units + 1 < cLine) : OpR X (compareOp .Eq) (rEqStr X.K) := by
  intro pins s σ H x y v u Q I rx ry h
  obtain ⟨d, t, hd, hn, rfl, q⟩ := h
  obtain ⟨tk, rfl⟩ := (show ∃ t', u = Value.str t t' from ry)
  exact rc_str I (by omega) hd hn rx X.prog X.w _ _ ⟨.bl _, H, I, rfl, q⟩
/-- a tuple against the empty one -/
def rEqTup0 : R2 := fun x y H Q => ∃ a b xs, x = .ref a ∧ H a = some (.tup xs) ∧ y = .ref b ∧ H b = some (.tup []) ∧ Q (.bl xs.isEmpty) H
open PySem.SeqAt in
theorem op_eq_tup0 (hu : X.A.units + 1 < cLine) : OpR X (compareOp .Eq) rEqTup0 := by
  intro pins s σ H x y v u Q I rx ry h
  obtain ⟨a, b, xs, rfl, ea, rfl, eb, q⟩ := h
  cases (show v = Value.ref a from rx)
  cases (show u = Value.ref b from ry)
  obtain ⟨_, its, rv, o, ho, hc, n, hd⟩ := (show ObjOk X.prog X.w H s.heap a (.tup xs) from I.hok a _ ea)
  obtain ⟨_, itb, rb, p, hp, hpc, m, hpd⟩ := (show ObjOk X.prog X.w H s.heap b (.tup []) from I.hok b _ eb)
  cases rb
  have z := RcAt.tuples (A := X.A) (s := s) (e := fun _ => true) (items := its.toArray) (items2 := #[]) ⟨o, ho, hc, n, hd⟩ ⟨p, hp, hpc, m, hpd⟩ (by omega)
    (fun j h1 h2 => absurd h2 (Nat.not_lt_zero j))
  refine z X.prog X.w _ _ ⟨.bl _, H, I, ?_, q⟩
  show Value.bool _ = Value.bool _
  have e : its.length = xs.length := rv.length.symm
  cases xs with
  | nil =>
    have e0 : its = [] := List.eq_nil_of_length_eq_zero e
    subst e0
    rfl
  | cons x xs =>
    cases its with
    | nil => cases e
    | cons i is => simp
/-- a list against the empty one -/
def rEqLst0 (K : PySem.W.Frag) : R2 := fun x y H Q => ∃ a b xs, x = .ref a ∧ H a = some (.lst xs) ∧ y = .ref b ∧ H b = some (.lst []) ∧ Q (.bl xs.isEmpty) H
def rNeLst0 (K : PySem.W.Frag) : R2 := fun x y H Q => ∃ a b xs, x = .ref a ∧ H a = some (.lst xs) ∧ y = .ref b ∧ H b = some (.lst []) ∧ Q (.bl (!xs.isEmpty)) H
open PySem.SeqAt in
theorem op_eq_lst0 (hu : X.A.units + 1 < cLine) : OpR X (compareOp .Eq) (rEqLst0 X.K) := by
  intro pins s σ H x y v u Q I rx ry h
  obtain ⟨a, b, xs, rfl, ea, rfl, eb, q⟩ := h
  cases (show v = Value.ref a from rx)
  cases (show u = Value.ref b from ry)
  obtain ⟨_, its, n, rv, ho⟩ := (show ObjOk X.prog X.w H s.heap a (.lst xs) from I.hok a _ ea)
  obtain ⟨_, itb, m, rb, hp⟩ := (show ObjOk X.prog X.w H s.heap b (.lst []) from I.hok b _ eb)
  cases rb
  cases rv with
  | nil =>
    have z := RcAt.lists (A := X.A) (s := s) (e := fun _ => true) (items := #[]) (items2 := #[]) ⟨_, ho, rfl, n, rfl⟩ ⟨_, hp, rfl, m, rfl⟩ rfl (by omega)
      (fun j h1 h2 => absurd h2 (Nat.not_lt_zero j))
    exact z X.prog X.w _ _ ⟨.bl _, H, I, rfl, q⟩
  | cons r t =>
    have z := RcAt.lists_lengths (A := X.A) (s := s) ⟨_, ho, rfl, n, rfl⟩ ⟨_, hp, rfl, m, rfl⟩ (by simp) (by omega)
    exact z X.prog X.w _ _ ⟨.bl _, H, I, rfl, q⟩
open PySem.SeqAt in
theorem op_ne_lst0 (hu : X.A.units + 1 < cLine) : OpR X (compareOp .NotEq) (rNeLst0 X.K) := by
  intro pins s σ H x y v u Q I rx ry h
  obtain ⟨a, b, xs, rfl, ea, rfl, eb, q⟩ := h
  cases (show v = Value.ref a from rx)
  cases (show u = Value.ref b from ry)
  obtain ⟨_, its, n, rv, ho⟩ := (show ObjOk X.prog X.w H s.heap a (.lst xs) from I.hok a _ ea)
  obtain ⟨_, itb, m, rb, hp⟩ := (show ObjOk X.prog X.w H s.heap b (.lst []) from I.hok b _ eb)
  cases rb
  cases rv with
  | nil =>
    have z := RcNeAt.lists (A := X.A) (s := s) (e := fun _ => true) (items := #[]) (items2 := #[]) ⟨_, ho, rfl, n, rfl⟩ ⟨_, hp, rfl, m, rfl⟩ rfl (by omega)
      (fun j h1 h2 => absurd h2 (Nat.not_lt_zero j))
    exact z X.prog X.w _ _ ⟨.bl _, H, I, rfl, q⟩
  | cons r t =>
    have z := RcNeAt.lists_lengths (A := X.A) (s := s) ⟨_, ho, rfl, n, rfl⟩ ⟨_, hp, rfl, m, rfl⟩ (by simp) (by omega)
    exact z X.prog X.w _ _ ⟨.bl _, H, I, rfl, q⟩
end
end D

set_option Elab.async false
set_option linter.all false
set_option maxRecDepth 100000
set_option maxHeartbeats 4000000
/-! What every law's text uses: draws out of a bag, and small rules. -/
namespace L
open PySem PySem.Spec PyProof.Rows L2 G D

/-- built-in names that the text does not shade -/
structure Bl (mg : Str → Option Value) : Prop where
  lenN : mg "len" = none
  isinstanceN : mg "isinstance" = none
  intN : mg "int" = none
  strN : mg "str" = none
  boolN : mg "bool" = none
  listN : mg "list" = none
  tupleN : mg "tuple" = none
  dictN : mg "dict" = none
  setN : mg "set" = none
  absN : mg "abs" = none
  reprN : mg "repr" = none
  sortedN : mg "sorted" = none
  allN : mg "all" = none
  rangeN : mg "range" = none
  zipN : mg "zip" = none
  enumerateN : mg "enumerate" = none
  minN : mg "min" = none

/-- a def that stands behind the top, with its promise -/
structure Def (P : Program) (w : World) (K : PySem.W.Frag) (mg : Str → Option Value) (base : Heap) (k : Nat) (x : Str) (ps : List Str) (sp : Sp) where
  f : Addr
  fd : FuncData
  ok : Fn P w K mg base CX0 k f fd ps sp
  b : Binds K fd ps []
  m : mg x = some (.ref f)
  kp : PySem.W.keepIn K (.ref f) = true
section
variable {X : Cx} {k : Nat} {x : Str} {ps : List Str} {sp : Sp} {e : Expr} {es : List Expr} {t : TA} {p pos : Pos}
theorem pe_def (D : Def X.prog X.w X.K X.mg X.base k x ps sp) (hc : Calm X.A) (hr : Room k X.A) (ha : PA X (e :: es) t) (hg : Gl X x := by rfl)
    (hdb : (x == ("__debug__" : Str)) = false := by decide)
    (he : starEach (e :: es) X.env = (false, eval e X.env) :: starEach es X.env := by rfl)
    (hpl : (backTo pos (starEach es X.env)).any (·.1) = false := by rfl) :
    PE X (.Call (.Name x p) (e :: es) [] pos) (tCall sp [] E0 t) :=
  pe_fn D.ok hc hr hg D.m D.kp D.b .nil pass0 ha hdb he hpl
end

/-! ### heaps -/
/-- all but what stands at b is as it was -/
def SameBut (b : Addr) (H H' : Hp) : Prop := ∀ x o, x ≠ b → H x = some o → H' x = some o
theorem SameBut.refl (b : Addr) (H : Hp) : SameBut b H H := fun _ _ _ h => h
theorem SameBut.trans {b : Addr} {H H1 H2 : Hp} (a : SameBut b H H1) (c : SameBut b H1 H2) : SameBut b H H2 := fun x o n h => c x o n (a x o n h)
theorem SameBut.same {b : Addr} {H H1 H2 : Hp} (a : SameBut b H H1) (c : Same H1 H2) : SameBut b H H2 := fun x o n h => c x o (a x o n h)
theorem Same.but {b : Addr} {H H1 : Hp} (c : Same H H1) : SameBut b H H1 := fun x o _ h => c x o h
theorem SameBut.upd {b : Addr} {H : Hp} {o : HO} : SameBut b H (upd H b o) := fun x u n h => by rw [upd_ne n]; exact h
theorem same_upd {H : Hp} {p : Addr} {o : HO} (h : H p = none) : Same H (upd H p o) := fun b u e => by rw [upd_ne (ne_of_none e h)]; exact e
/-- the frozen part F, without what stands at b, lies in H -/
theorem SameBut.from {b : Addr} {F H H' : Hp} (s : Same F H) (n : F b = none) (h : SameBut b H H') : Same F H' := fun x o e => h x o (fun z => by rw [z, n] at e; cases e) (s x o e)

theorem pget_list {X : Cx} : PGet X (rIxL X.K) := by
  intro pins s σ H o i ov iv Q I ro ri h
  obtain ⟨p, xs, k, v, rfl, rfl, hq, he, q⟩ := h
  cases ro
  obtain ⟨t, rfl⟩ := ri
  obtain ⟨its, r, pl, hz⟩ := I.list hq
  obtain ⟨j, h1, h2, h3, h4, h5⟩ := atI_get he
  obtain ⟨w, ew, rw'⟩ := r.get h2
  have hl := r.length
  have hn := line63
  have fin : EP X pins σ Q w s := ⟨v, H, I, rw', q⟩
  by_cases h0 : 0 ≤ k
  · have hj : k.toNat = j := by
      rw [seqIndex_of h0 h5] at h1
      exact Option.some.inj h1
    exact getItem_listL pl.isList h0 (by omega) (by rw [hj]; simpa using ew) fin
  · have hj : (k + (its.toArray.size : Int)).toNat = j := by
      rw [seqIndex_neg (by omega) h4] at h1
      rw [List.size_toArray, ← hl]
      exact Option.some.inj h1
    exact wpAny_mono (wpAny_getItem_list_neg (Q := fun r s' => r = w ∧ EP X pins σ Q r s') pl.isList (by omega) (by rw [List.size_toArray] <;> omega) (by omega) (by rw [hj]; simpa using ew) ⟨rfl, fin⟩) (fun _ _ z => z.2) fun _ _ z => z

/-! ### the bag -/
/-- at b stands a bag: its four places, the last one the list at l of numbers from 0 on -/
def BagL (H : Hp) (b l : Addr) : Prop := ∃ (c0 c1 c2 : Int) (ms : List Int), H b = some (.lst [.int c0, .int c1, .int c2, .ref l]) ∧
  H l = some (.lst (ms.map V.int)) ∧ 0 ≤ c0 ∧ 0 ≤ c1 ∧ c1 < 2147483648 ∧ 0 ≤ c2 ∧ ms.length ≤ 63 ∧ ∀ m ∈ ms, 0 ≤ m
def Bag (H : Hp) (b : Addr) : Prop := ∃ l, BagL H b l
/-- it is the same bag, with the same list -/
def BagTo (H H' : Hp) (b : Addr) : Prop := ∃ l, BagL H b l ∧ BagL H' b l
theorem BagL.keep {H H' : Hp} {b l : Addr} (h : BagL H b l) (s : Same H H') : BagL H' b l := by
  obtain ⟨c0, c1, c2, ms, h1, h2, r⟩ := h
  exact ⟨c0, c1, c2, ms, s _ _ h1, s _ _ h2, r⟩
theorem Bag.keep {H H' : Hp} {b : Addr} (h : Bag H b) (s : Same H H') : Bag H' b := let ⟨l, q⟩ := h; ⟨l, q.keep s⟩
theorem BagL.one {H : Hp} {b l l' : Addr} (h : BagL H b l) (h' : BagL H b l') : l = l' := by
  obtain ⟨c0, c1, c2, ms, h1, _⟩ := h
  obtain ⟨d0, d1, d2, ms', g1, _⟩ := h'
  rw [h1] at g1
  have := HO.lst.inj (Option.some.inj g1)
  simp at this
  exact this.2.2.2
theorem BagTo.bag {H H' : Hp} {b : Addr} (h : BagTo H H' b) : Bag H' b := let ⟨l, _, q⟩ := h; ⟨l, q⟩
/-- a draw: from 0 on, below many -/
def spTake : Sp := fun vs H Q _ => ∃ (b : Addr) (m : Int), vs = [.ref b, .int m] ∧ Bag H b ∧ 0 < m ∧ m < 1000000000 ∧
  ∀ (k : Int) (H' : Hp), 0 ≤ k → k < m → SameBut b H H' → BagTo H H' b → Q (.int k) H'
/-- one of a list of things -/
def spOne : Sp := fun vs H Q _ => ∃ (b t : Addr) (xs : List V), vs = [.ref b, .ref t] ∧ Bag H b ∧ H t = some (.lst xs) ∧ t ≠ b ∧ xs ≠ [] ∧ xs.length < 1000000 ∧
  ∀ (v : V) (H' : Hp), v ∈ xs → SameBut b H H' → BagTo H H' b → Q v H'
end L

set_option Elab.async false
set_option linter.all false
set_option maxRecDepth 100000
set_option maxHeartbeats 4000000
/-! Order and sorting of data. -/
namespace S
open PySem PySem.Spec PyProof.Rows L2 G D L
open PySem.W (alike dataLt dataLe AllAlike Sortable sorted_data EachIs)
section
variable {X : Cx}
/-- x < y, of data that can be compared -/
def rCmpA (K : PySem.W.Frag) (g : PyData → PyData → Bool) : R2 := fun x y H Q => ∃ d e, Rep K H x d ∧ Rep K H y e ∧ d.pure = true ∧ e.pure = true ∧ alike d.py e.py = true ∧ d.py ≠ .none ∧ d.py.depth ≤ 40 ∧ Q (.bl (g d.py e.py)) H
theorem op_ltA (hu : X.A.units + 64 < cLine) : OpR X (compareOp .Lt) (rCmpA X.K dataLt) := by
  intro pins s σ H x y v u Q I rx ry h
  obtain ⟨d, e, hd, he, pd, pe, al, hn, dp, q⟩ := h
  obtain ⟨as, ra, _⟩ := Rep.reads I d x v hd pd rx
  obtain ⟨bs, rb, _⟩ := Rep.reads I e y u he pe ry
  exact PySem.W.rcLt_alike _ _ X.A s v u as bs ra rb al hn (by have := Nat.min_le_left d.py.depth e.py.depth; omega) X.prog X.w _ _ ⟨.bl _, H, I, rfl, q⟩
theorem op_geA (hu : X.A.units + 64 < cLine) : OpR X (compareOp .GtE) (rCmpA X.K fun d e => !dataLt d e) := by
  intro pins s σ H x y v u Q I rx ry h
  obtain ⟨d, e, hd, he, pd, pe, al, hn, dp, q⟩ := h
  obtain ⟨as, ra, _⟩ := Rep.reads I d x v hd pd rx
  obtain ⟨bs, rb, _⟩ := Rep.reads I e y u he pe ry
  exact PySem.W.rcGe_alike _ _ X.A s v u as bs ra rb al hn (by have := Nat.min_le_left d.py.depth e.py.depth; omega) X.prog X.w _ _ ⟨.bl _, H, I, rfl, q⟩

theorem each_rep {K : PySem.W.Frag} {H : Hp} : ∀ {ds : List Dat} {xs : List V} {vs : List Value}, RepAll K H xs ds → Vals xs vs → EachIs (fun v d => ∃ x, RelV x v ∧ Rep K H x d) vs ds
  | [], xs, vs, r, q => by
    cases (show xs = [] from r)
    cases q
    exact .nil
  | d :: ds, xs, vs, r, q => by
    obtain ⟨x, t, rfl, a, b⟩ := r
    cases q with
    | cons r1 r2 => exact .cons ⟨x, r1, a⟩ (each_rep b r2)
theorem rep_each {K : PySem.W.Frag} {H : Hp} : ∀ {ds : List Dat} {vs : List Value}, EachIs (fun v d => ∃ x, RelV x v ∧ Rep K H x d) vs ds → ∃ xs, RepAll K H xs ds ∧ Vals xs vs := by
  intro ds vs h
  induction h with
  | nil => exact ⟨[], rfl, .nil⟩
  | cons a _ ih =>
    obtain ⟨x, r, p⟩ := a
    obtain ⟨xs, q, t⟩ := ih
    exact ⟨x :: xs, ⟨x, xs, rfl, p, q⟩, .cons r t⟩
/-- the items in order -/
def sortD (ds : List Dat) : List Dat := ds.mergeSort (dataLe false Dat.py)
/-- what sorting asks of the items -/
structure Ord (ds : List Dat) : Prop where
  pu : ∀ d ∈ ds, d.pure = true
  al : AllAlike (ds.map Dat.py)
  so : Sortable (ds.map Dat.py)
  dp : ∀ d ∈ ds, d.py.depth ≤ 40
def rSorted (K : PySem.W.Frag) : List V → Hp → VK → Prop := fun vs H Q => ∃ a xs ds, ∃ G : Hp, vs = [.ref a] ∧ H a = some (.lst xs) ∧ Same G H ∧ RepAll K G xs ds ∧ Ord ds ∧
  ∀ p ys, H p = none → RepAll K G ys (sortD ds) → ys.length = xs.length → Q (.ref p) (upd H p (.lst ys))
theorem call_sorted (hu : X.A.units + 64 < cLine) : CallR X (.builtin "sorted") (rSorted X.K) := by
  intro pins s σ H vs us Q I r h
  obtain ⟨a, xs, ds, G, rfl, ha, sG, hr, ho, q⟩ := h
  obtain ⟨u, rfl, ru⟩ := vals1 r
  cases (show u = Value.ref a from ru)
  obtain ⟨hz, its, n, rv, hob⟩ := (show ObjOk X.prog X.w H s.heap a (.lst xs) from I.hok a _ ha)
  have e1 := each_rep hr rv
  have e2 : EachIs (fun v d => ∃ as, Reads s.heap v (Dat.py d) as) its ds := by
    have : ∀ {ds : List Dat} {vs : List Value}, (∀ d ∈ ds, d.pure = true) → EachIs (fun v d => ∃ x, RelV x v ∧ Rep X.K G x d) vs ds → EachIs (fun v d => ∃ as, Reads s.heap v (Dat.py d) as) vs ds := by
      intro ds vs hp e
      induction e with
      | nil => exact .nil
      | @cons v d vs ds a _ ih =>
        obtain ⟨x, r, p⟩ := a
        obtain ⟨as, q, _⟩ := Rep.reads I d x v (Rep.mono sG d p) (hp d List.mem_cons_self) r
        exact .cons ⟨as, q⟩ (ih fun y hy => hp y (List.mem_cons_of_mem _ hy))
    exact this ho.pu e1
  have hl : xs.length = ds.length := hr.length
  refine sorted_data (enc := Dat.py) ⟨_, hob, rfl, n, rfl⟩ e1 e2 ho.al ho.so (by rw [← hl]; exact hz) (fun d hd => ?_) fun out ol eo => ?_
  · have := ho.dp d hd
    omega
  · obtain ⟨ys, ry, vy⟩ := rep_each eo
    have yl : ys.length = xs.length := by rw [vy.length, ol, hl]
    obtain ⟨ep, he⟩ := sortedAll_at s.heap its out.toArray
    refine ⟨.ref _, upd H (s.heap.objs.size + 1) (.lst ys), I.laid (t' := s.toks) (fun _ _ => sortedAll_old) (Nat.le_succ _) ?_, rfl, ?_⟩
    · exact ⟨by rw [yl]; exact hz, out, ep, vy, he⟩
    · exact q _ ys (I.hok.fresh (Nat.le_succ _)) ry yl
end
end S

set_option Elab.async false
set_option linter.all false
set_option maxRecDepth 100000
set_option maxHeartbeats 4000000
/-! Comprehensions whose turns change nothing that stands, or a bag alone. -/
namespace C
open PySem PySem.Spec PyProof.Rows L2 G D L S
theorem take_succ_map {α β : Type} {xs : List α} {f : α → Option β} {i : Nat} {a : α} (h : xs[i]? = some a) :
    (xs.take (i + 1)).filterMap f = (xs.take i).filterMap f ++ (match f a with | some y => [y] | none => []) := by
  have e : xs.take (i + 1) = xs.take i ++ [a] := by
    rw [List.take_add_one, h]; rfl
  rw [e, List.filterMap_append]
  congr 1
  cases hf : f a <;> simp [hf]
section
variable {J : It} {n : Nat} {G : Hp → Prop} {Y : Nat → Hp → V → Hp → Prop}
/-- the end of a comprehension over w: nothing that stands changes; a place gives f a, or nothing -/
theorem lc_sel {α : Type} (w : Walk J n G Y) (xs : List α) (f : α → Option V) {g : TG} {tt : TT} {te : TE} {vs : List Nat} {σ : L2.St} {H1 : Hp} {D : Addr}
    {Qd : Hp → Prop} (hn : xs.length = n) (hz : n < sizeLine) (hD : H1 D = none) (hG : ∀ H, Same H1 H → G H)
    (turn : ∀ (i : Nat) (a : α) (x : V) (H H' : Hp) (Kt : V → Hp → Prop) (Kf : Hp → Prop), xs[i]? = some a → Same H1 H → Y i H x H' →
      (∀ y H4, Same H H4 → f a = some y → Kt y H4) → (∀ H3, Same H H3 → f a = none → Kf H3) →
      g x (wipe σ vs) H' fun σ2 H2 => wipe σ2 vs = wipe σ vs ∧ tt σ2 H2 fun b H3 => if b = true then te σ2 H3 Kt else Kf H3)
    (done : ∀ H, Same H1 H → H D = some (.lst (xs.filterMap f)) → Qd H) :
    ∃ W : Nat → Nat → Hp → Prop, (∃ m, W 0 m (upd H1 D (.lst []))) ∧ ∀ i m H, W i m H →
      (J.stop i H ∧ Qd H) ∨ (J.go i H ∧ ∃ Nx : Hp → Prop, (∀ H', Nx H' → ∃ m', m' < m ∧ W (i + 1) m' H') ∧ ∀ x H', J.yld i H x H' →
        g x (wipe σ vs) H' fun σ2 H2 => wipe σ2 vs = wipe σ vs ∧ tt σ2 H2 fun b H3 =>
          if b = true then te σ2 H3 fun y H4 => ∃ acc, H4 D = some (.lst acc) ∧ acc.length < sizeLine ∧ Nx (upd H4 D (.lst (acc ++ [y]))) else Nx H3) := by
  refine lc_it w (fun i H => Same H1 H ∧ H D = some (.lst ((xs.take i).filterMap f))) ⟨same_upd hD, upd_same⟩ (fun i H _ h => hG H h.1) ?_ ?_
  · rintro i x H H' hi ⟨hs, hd⟩ hy
    have hx : xs[i]? = some xs[i] := List.getElem?_eq_getElem (by omega)
    have hl : ((xs.take i).filterMap f).length < sizeLine := by
      have h1 := List.length_filterMap_le f (xs.take i)
      have h2 := List.length_take_le i xs
      omega
    refine turn i _ x H H' _ _ hx hs hy (fun y H4 h4 e => ?_) (fun H3 h3 e => ?_)
    · refine ⟨_, h4 _ _ hd, hl, ?_, ?_⟩
      · intro b o eb
        rw [upd_ne (ne_of_none eb hD)]
        exact h4 _ _ (hs _ _ eb)
      · rw [upd_same, take_succ_map hx, e]
    · refine ⟨hs.trans h3, ?_⟩
      rw [h3 _ _ hd, take_succ_map hx, e, List.append_nil]
  · rintro H ⟨hs, hd⟩
    rw [← hn, List.take_length] at hd
    exact done H hs hd
/-- the same without a test -/
theorem lc_map {α : Type} (w : Walk J n G Y) (xs : List α) (f : α → V) {g : TG} {te : TE} {vs : List Nat} {σ : L2.St} {H1 : Hp} {D : Addr}
    {Qd : Hp → Prop} (hn : xs.length = n) (hz : n < sizeLine) (hD : H1 D = none) (hG : ∀ H, Same H1 H → G H)
    (turn : ∀ (i : Nat) (a : α) (x : V) (H H' : Hp) (Kt : V → Hp → Prop), xs[i]? = some a → Same H1 H → Y i H x H' →
      (∀ H4, Same H H4 → Kt (f a) H4) →
      g x (wipe σ vs) H' fun σ2 H2 => wipe σ2 vs = wipe σ vs ∧ te σ2 H2 Kt)
    (done : ∀ H, Same H1 H → H D = some (.lst (xs.map f)) → Qd H) :
    ∃ W : Nat → Nat → Hp → Prop, (∃ m, W 0 m (upd H1 D (.lst []))) ∧ ∀ i m H, W i m H →
      (J.stop i H ∧ Qd H) ∨ (J.go i H ∧ ∃ Nx : Hp → Prop, (∀ H', Nx H' → ∃ m', m' < m ∧ W (i + 1) m' H') ∧ ∀ x H', J.yld i H x H' →
        g x (wipe σ vs) H' fun σ2 H2 => wipe σ2 vs = wipe σ vs ∧ tYes σ2 H2 fun b H3 =>
          if b = true then te σ2 H3 fun y H4 => ∃ acc, H4 D = some (.lst acc) ∧ acc.length < sizeLine ∧ Nx (upd H4 D (.lst (acc ++ [y]))) else Nx H3) := by
  refine lc_it w (fun i H => Same H1 H ∧ H D = some (.lst ((xs.take i).map f))) ⟨same_upd hD, upd_same⟩ (fun i H _ h => hG H h.1) ?_ ?_
  · rintro i x H H' hi ⟨hs, hd⟩ hy
    have hx : xs[i]? = some xs[i] := List.getElem?_eq_getElem (by omega)
    have hl : ((xs.take i).map f).length < sizeLine := by
      have h2 := List.length_take_le i xs
      rw [List.length_map]
      omega
    have key := turn i _ x H H' (fun y H4 => ∃ acc, H4 D = some (.lst acc) ∧ acc.length < sizeLine ∧ Same H1 (upd H4 D (.lst (acc ++ [y]))) ∧ (upd H4 D (.lst (acc ++ [y]))) D = some (.lst ((xs.take (i + 1)).map f))) hx hs hy (fun H4 h4 => by
      refine ⟨_, h4 _ _ hd, hl, ?_, ?_⟩
      · intro b o eb
        rw [upd_ne (ne_of_none eb hD)]
        exact h4 _ _ (hs _ _ eb)
      · rw [upd_same, List.take_add_one, hx, List.map_append]; rfl)
    exact key
  · rintro H ⟨hs, hd⟩
    rw [← hn, List.take_length] at hd
    exact done H hs hd
end
end C

set_option Elab.async false
set_option linter.all false
set_option maxRecDepth 100000
set_option maxHeartbeats 8000000
namespace K
open PySem PySem.Spec PyProof.Rows L2 G D L S C
open C8 (pss_cut tCut)
def top (i : Nat) : Stmt := PySem.Challenge.pw_letinside_k12_gates_told_and_refused.main.body.getD i (.Pass ⟨0, 0, 0, 0⟩)
/-! what the words of the kinds mean -/
def lower (c : Nat) : Bool := decide (97 ≤ c) && decide (c ≤ 122)
def nameOk (x : Str) : Bool := decide (1 ≤ x.length) && decide (x.length ≤ 8) && x.cps.toList.all lower
def isName : Dat → Bool
  | .str x => nameOk x
  | _ => false
def isWhole : Dat → Bool
  | .int _ => true
  | _ => false
/-- a question about data -/
def spB (K : PySem.W.Frag) (ok : Dat → Prop) (g : Dat → Bool) : Sp := fun vs H Q _ => ∃ (v : V) (d : Dat), vs = [v] ∧ Rep K H v d ∧ ok d ∧ ∀ H', Same H H' → Q (.bl (g d)) H'
mutual
/-- small enough at every place -/
def wd : Dat → Bool
  | .str x => decide (x.length ≤ 1000)
  | .lst ds => decide (ds.length ≤ 1000) && wdAll ds
  | .tup ds => decide (ds.length ≤ 1000) && wdAll ds
  | _ => true
def wdAll : List Dat → Bool
  | [] => true
  | d :: ds => wd d && wdAll ds
end
abbrev Wd (d : Dat) : Prop := wd d = true
theorem wdAll_mem : ∀ {ds : List Dat}, wdAll ds = true → ∀ d ∈ ds, Wd d
  | [], _, _, h => by simp at h
  | e :: ds, h, d, hd => by
    have h' : (wd e && wdAll ds) = true := h
    rw [Bool.and_eq_true] at h'
    rcases List.mem_cons.mp hd with rfl | hd
    · exact h'.1
    · exact wdAll_mem h'.2 d hd
theorem wd_lst {ds : List Dat} (h : Wd (.lst ds)) : ds.length ≤ 1000 ∧ ∀ d ∈ ds, Wd d := by
  have h' : (decide (ds.length ≤ 1000) && wdAll ds) = true := h
  rw [Bool.and_eq_true, decide_eq_true_eq] at h'
  exact ⟨h'.1, wdAll_mem h'.2⟩
theorem wd_tup {ds : List Dat} (h : Wd (.tup ds)) : ds.length ≤ 1000 ∧ ∀ d ∈ ds, Wd d := wd_lst (ds := ds) h
theorem wd_str {x : Str} (h : Wd (.str x)) : x.length ≤ 1000 := of_decide_eq_true h
theorem cps_one (c : Nat) : (⟨#[c]⟩ : Str).cps.toList = [c] := rfl
theorem lower_test (c : Nat) : (!decide ((⟨#[c]⟩ : Str).cps.toList < ("a" : Str).cps.toList)) = decide (97 ≤ c) ∧ (!decide (("z" : Str).cps.toList < (⟨#[c]⟩ : Str).cps.toList)) = decide (c ≤ 122) := by
  have ea : ("a" : Str).cps.toList = [97] := by decide +kernel
  have ez : ("z" : Str).cps.toList = [122] := by decide +kernel
  rw [ea, ez, cps_one]
  constructor
  · by_cases h : 97 ≤ c
    · have : ¬ ([c] < [97]) := by rw [List.cons_lt_cons_iff]; simp; omega
      simp [this, h]
    · have : ([c] < [97]) := by rw [List.cons_lt_cons_iff]; omega
      simp [this, h]
  · by_cases h : c ≤ 122
    · have : ¬ ([122] < [c]) := by rw [List.cons_lt_cons_iff]; simp; omega
      simp [this, h]
    · have : ([122] < [c]) := by rw [List.cons_lt_cons_iff]; omega
      simp [this, h]
section
variable {P : Program} {w : World} {K : PySem.W.Frag} {mg : Str → Option Value} {base : Heap}
abbrev s_is_integer : Stmt := top 5
theorem sc_is_integer : FnScope ["thing"] ["thing"] (defScope s_is_integer) := ⟨rfl, rfl, rfl, by decide +kernel, rfl, by decide +kernel, by decide +kernel⟩
theorem ok_is_integer {f : Addr} {fd : FuncData} (F : Fun K "is_integer" "is_integer" s_is_integer f fd) (T : Bl mg) :
    Fn P w K mg base CX0 2 f fd ["thing"] (spB K (fun _ => True) isWhole) := by
  refine fn_calm F sc_is_integer (fun vs H Q E h => ?_) (fun cdv A outer s H vs Q E hc hr h => ?_)
  · obtain ⟨v, d, rfl, _⟩ := h
    rfl
  · obtain ⟨v, d, rfl, hv, _, k⟩ := h
    refine ⟨_, (pss_one (ps_ret (pe_and (pe_callB call_isi (by rfl) T.isinstanceN (by decide +kernel) (pa_cons (pv 0) (pa_cons (pe_bltn (v := .ty "int") (by rfl) T.intN (by decide +kernel) rfl) pa_nil))) (pe_one (pe_not (pe_callB call_isi (by rfl) T.isinstanceN (by decide +kernel) (pa_cons (pv 0) (pa_cons (pe_bltn (v := .ty "bool") (by rfl) T.boolN (by decide +kernel) rfl) pa_nil)))))))), ?_⟩
    refine ⟨_, rfl, _, _, _, _, _, rfl, .ty "int", hv.ty, kit_int hv, _, rfl, ?_⟩
    refine ite2 (fun e => ?_) (fun e => ?_)
    · refine ⟨_, rfl, _, _, _, _, _, rfl, .ty "bool", hv.ty, kit_bl hv, _, rfl, ?_⟩
      have q : (!d.isBl) = isWhole d := by cases d <;> first | rfl | cases e
      rw [q]
      exact k H (.refl H)
    · have q : isWhole d = false := by cases d <;> first | rfl | exact absurd rfl e
      have z := k H (.refl H)
      rw [q] at z
      exact z
abbrev s_is_name : Stmt := top 7
theorem sc_is_name : FnScope ["thing", "sign"] ["thing"] (defScope s_is_name) := ⟨rfl, rfl, rfl, by decide +kernel, rfl, by decide +kernel, by decide +kernel⟩
theorem ok_is_name {f : Addr} {fd : FuncData} (F : Fun K "is_name" "is_name" s_is_name f fd) (T : Bl mg) :
    Fn P w K mg base CX0 2 f fd ["thing"] (spB K Wd isName) := by
  refine fn_calm F sc_is_name (fun vs H Q E h => ?_) (fun cdv A outer s H vs Q E hc hr h => ?_)
  · obtain ⟨v, d, rfl, _⟩ := h
    rfl
  · obtain ⟨v, d, rfl, hv, hw, k⟩ := h
    refine ⟨_, (pss_cons (ps_if (PW.pt (pw_or (pt_not (pt_val (pe_callB call_isi (by rfl) T.isinstanceN (by decide +kernel) (pa_cons (pv 0) (pa_cons (pe_bltn (v := .ty "str") (by rfl) T.strN (by decide +kernel) rfl) pa_nil))))) (pw_or1 (pt_not (pt_chain op_le op_le pe_int (pe_callB call_len_str (by rfl) T.lenN (by decide +kernel) (pa_cons (pv 0) pa_nil)) pe_int)))))
  (pss_one (ps_ret pe_bl))
  pss_nil)
 (pss_one (ps_ret (pe_callB (cr_all rfl) (by rfl) T.allN (by decide +kernel) (pa_cons (pe_lc (own := [("sign", 1)]) (g := gName 1) (tt := tYes) rfl sc_is_name.nd (pi_str (pv 0)) (blkOk_by (N := ["thing", "sign"]) (sc := defScope s_is_name) (by decide +kernel)) (fun _ _ _ _ _ => (pg_name (i := 1) sc_is_name.nd rfl (Or.inl rfl))) (fun _ _ _ _ _ => pts_nil) (fun _ _ _ _ _ => (pe_chain op_le_str op_le_str pe_str (pv 1) pe_str))) pa_nil))))), ?_⟩
    refine ⟨_, rfl, _, _, _, _, _, rfl, .ty "str", hv.ty, kit_str hv, _, rfl, ?_⟩
    cases d with
    | str x =>
      cases (show v = V.str x from hv)
      refine iteF ?_
      have hx : x.length ≤ sizeLine := Nat.le_trans (wd_str hw) (by decide)
      have no : ∀ H', Same H H' → isName (.str x) = false → Q (.bl false) H' := fun H' s e => by
        have z := k H' s
        rw [e] at z
        exact z
      refine ⟨_, rfl, _, rfl, hx, _, _, rfl, rfl, _, rfl, ?_⟩
      refine ite2 (fun e1 => ?_) (fun e1 => ?_)
      · refine ⟨_, _, rfl, rfl, _, rfl, ?_⟩
        have h1 : 1 ≤ x.length := by have := of_decide_eq_true e1; omega
        refine ite2 (fun e2 => ?_) (fun e2 => ?_)
        · refine no H (.refl H) ?_
          have h2 : ¬ x.length ≤ 8 := fun z => by
            have : decide (((x.length : Nat) : Int) ≤ 8) = true := decide_eq_true (by omega)
            rw [this] at e2
            cases e2
          show nameOk x = false
          unfold nameOk
          rw [decide_eq_false h2]
          simp
        · have h2 : x.length ≤ 8 := Decidable.byContradiction fun z => e2 (by
            have : decide (((x.length : Nat) : Int) ≤ 8) = false := decide_eq_false (by omega)
            rw [this]; rfl)
          refine ⟨_, rfl, x, rfl, fun D hD => lc_map walk_str x.cps.toList (fun c => .bl (lower c)) (by simp) ?_ hD (fun _ _ => trivial) ?_ ?_⟩
          · have : x.cps.size = x.length := rfl
            rw [this]
            exact Nat.lt_of_le_of_lt h2 (by decide)
          · rintro i c y H1 H2 Kt hc hs ⟨rfl, c', hc', rfl⟩ kt
            refine ⟨rfl, ?_⟩
            obtain rfl : c' = c := by
              rw [← Array.getElem?_toList, hc] at hc'
              exact (Option.some.inj hc').symm
            have z := kt _ (.refl _)
            unfold lower at z
            refine ⟨_, rfl, _, _, rfl, rfl, _, rfl, ?_⟩
            rw [(lower_test c').1]
            refine ite2 (fun e3 => ?_) (fun e3 => ?_)
            · refine ⟨_, _, rfl, rfl, ?_⟩
              rw [(lower_test c').2]
              rw [e3] at z
              exact z
            · have e4 : decide (97 ≤ c') = false := Bool.not_eq_true _ ▸ e3
              rw [e4] at z
              exact z
          · intro H1 hs hd
            refine ⟨D, x.cps.toList.map lower, rfl, ?_, ?_⟩
            · refine SqL.of ?_
              rw [List.map_map]
              exact hd
            · have z := k H1 hs
              have q : isName (.str x) = (x.cps.toList.map lower).all id := by
                show nameOk x = _
                unfold nameOk
                rw [decide_eq_true h1, decide_eq_true h2, List.all_map]
                rfl
              rw [q] at z
              exact z
      · refine ⟨_, rfl, iteT (no H (.refl H) ?_)⟩
        have h1 : ¬ 1 ≤ x.length := fun z => e1 (decide_eq_true (by omega))
        show nameOk x = false
        unfold nameOk
        rw [decide_eq_false h1]
        rfl
    | _ => exact iteT (iteT (k H (.refl H)))
end
end K

set_option Elab.async false
set_option linter.all false
set_option maxRecDepth 100000
set_option maxHeartbeats 8000000
/-! set(..) of a list or a tuple of texts: how many there are. -/
namespace Sx
open PySem PySem.Spec PyProof.Rows L2 G D L
/-- how many different ones stand in the first i -/
def cnt {κ : Type} [DecidableEq κ] (ks : List κ) : Nat → Nat
  | 0 => 0
  | i + 1 => match ks[i]? with
    | some k => if k ∈ ks.take i then cnt ks i else cnt ks i + 1
    | none => cnt ks i
theorem cnt_le {κ : Type} [DecidableEq κ] (ks : List κ) : ∀ i, cnt ks i ≤ i
  | 0 => Nat.le_refl _
  | i + 1 => by
    have := cnt_le ks i
    unfold cnt
    split
    · split <;> omega
    · omega
theorem cnt_all {κ : Type} [DecidableEq κ] (ks : List κ) : ∀ i, i ≤ ks.length → (cnt ks i = i ↔ (ks.take i).Nodup)
  | 0, _ => by simp [cnt]
  | i + 1, h => by
    have hk : ks[i]? = some ks[i] := List.getElem?_eq_getElem (by omega)
    have ih := cnt_all ks i (by omega)
    have le := cnt_le ks i
    have e : ks.take (i + 1) = ks.take i ++ [ks[i]] := by rw [List.take_add_one, hk]; rfl
    rw [e, List.nodup_append]
    unfold cnt
    rw [hk]
    simp only
    by_cases hm : ks[i] ∈ ks.take i
    · rw [if_pos hm]
      constructor
      · intro z; omega
      · rintro ⟨_, _, z⟩
        exact absurd rfl (z _ hm _ (List.mem_singleton.mpr rfl))
    · rw [if_neg hm]
      constructor
      · intro z
        refine ⟨ih.mp (by omega), by simp, ?_⟩
        rintro a ha b hb rfl
        rw [List.mem_singleton] at hb
        subst hb
        exact hm ha
      · rintro ⟨z, _, _⟩
        rw [ih.mpr z]
section
variable {prog : Program} {w : World} {A : Around} {E : Value → Shared → Prop} {s : Shared} {κ : Type} [DecidableEq κ] {knd : KeyKind prog w κ}
  {I : Addr} {fp wr : List Addr} {Gg : Array GenState → Array GenState → Prop} {n : Nat} {P : Nat → Value → Prop} {St : Nat → Shared → Prop}
/-- the members after the first i -/
abbrev mem (ks : List κ) (i : Nat) : κ → Bool := fun k => decide (k ∈ ks.take i)
theorem set_loop {R : Result → Shared → Prop} (W : WalksS prog w A.in1 I fp wr Gg n P St) (a : Addr) (ha : a ∉ fp) (ks : List κ) (hl : ks.length = n) (hn : n < 4000)
    (hv : ∀ i v, P i v → ∃ k, ks[i]? = some k ∧ knd.is k v = true ∧ v.scannable = true) :
    ∀ (m i : Nat) (s : Shared), n - i = m → i ≤ n → St i s → s.heap.SetOf knd a (mem ks i) (cnt ks i) →
      (∀ s', Moved (a :: wr) Gg s s' → s'.heap.SetOf knd a (mem ks n) (cnt ks n) → R (.ok (.ret .none)) s') →
      codeAny (model prog w) A (.builtin "set.update.loop" ⟨[.ref a, .ref I], []⟩) R s := by
  have haw : a ∉ wr := fun h => ha (W.sub _ h)
  have more : ∀ b ∈ wr, b ∈ a :: wr := fun b hb => List.mem_cons_of_mem _ hb
  intro m
  induction m with
  | zero =>
    intro i s hm hi st hS fin
    obtain rfl : i = n := by omega
    refine codeAny_builtin F.entry_set_update_loop ?_
    rw [Around.under_plainId F.plain_set_update_loop _]
    show wpAny _ A.in1 (pyNext (.ref I) >>= _) _ _ s
    refine wpAny_bind (W.done s _ _ st fun s' mv => ?_)
    show wpAny _ A.in1 (ret Value.none) _ _ s'
    refine wpAny_pure (fin s' (mv.mono more) ?_)
    obtain ⟨o, es, ep, t, ho, r⟩ := hS
    exact ⟨o, es, ep, t, mv.heap a _ haw ho, r⟩
  | succ m ih =>
    intro i s hm hi st hS fin
    have hlt : i < n := by omega
    refine codeAny_builtin F.entry_set_update_loop ?_
    rw [Around.under_plainId F.plain_set_update_loop _]
    show wpAny _ A.in1 (pyNext (.ref I) >>= _) _ _ s
    refine wpAny_bind (W.item i s _ _ hlt st fun v s' hp st' mv => ?_)
    obtain ⟨k, hk, his, hsc⟩ := hv i v hp
    have hS' : s'.heap.SetOf knd a (mem ks i) (cnt ks i) := by
      obtain ⟨o, es, ep, t, ho, r⟩ := hS
      exact ⟨o, es, ep, t, mv.heap a _ haw ho, r⟩
    have le := cnt_le ks i
    show wpAny _ A.in1 (holding [v] (setAdd a v) >>= _) _ _ s'
    refine wpAny_bind (wpAny_holding ?_)
    unfold setAdd
    refine wpAny_holding (wpAny_bind (knd.pyHash his ?_))
    have room : cnt ks i + 1 < scanBound := by
      unfold scanBound
      omega
    refine wpAny_setAddHashed_of (knd := knd) (s := { s' with toks := s'.toks + 1 }) his hsc hS' room fun h' sb hS3 => ?_
    have mm : ∀ k', (mem ks i k' || decide (k' = k)) = mem ks (i + 1) k' := by
      intro k'
      show (decide (k' ∈ ks.take i) || decide (k' = k)) = decide (k' ∈ ks.take (i + 1))
      rw [List.take_add_one, hk]
      by_cases q : k' ∈ ks.take i <;> by_cases q2 : k' = k <;> simp [q, q2]
    have cc : (if mem ks i k = true then cnt ks i else cnt ks i + 1) = cnt ks (i + 1) := by
      show _ = (match ks[i]? with | some k => if k ∈ ks.take i then cnt ks i else cnt ks i + 1 | none => cnt ks i)
      rw [hk]
      by_cases q : k ∈ ks.take i <;> simp [q]
    refine wpAny_pure ⟨plainId_quiet F.plain_set_update_loop _, ?_⟩
    refine ih (i + 1) _ (by omega) hlt (W.frame _ s' _ _ st' (Nat.le_succ _) fun b hb o e => ?_) (SetOf_congr hS3 mm cc) fun s3 mv3 hS4 => ?_
    · rw [sb.2 b fun q : b = a => ha (by rw [← q]; exact hb)]
      exact e
    · refine fin s3 (Moved.trans W.gtrans ((mv.mono more).then_heap (Nat.le_succ _) fun b o hb e => ?_) mv3) hS4
      rw [sb.2 b fun q : b = a => hb (by rw [q]; exact List.mem_cons_self)]
      exact e
end

section
variable {prog : Program} {w : World} {A : Around} {E : Value → Shared → Prop} {s : Shared} {κ : Type} [DecidableEq κ] {knd : KeyKind prog w κ}
/-- an empty set that has just been made -/
abbrev freshSet (led : Bool) : Obj := { cls := .type "set", dict := none, data := .set #[] 0 (.fresh 0 0 led) }
theorem set_of_list {l : Addr} {items : Array Value} {ks : List κ} {Q : Value → Shared → Prop} (hh : A.handled = none) (hl : s.heap.IsList l items)
    (hk : ks.length = items.size) (hn : items.size < 4000) (hv : ∀ (i : Nat) (v : Value), items[i]? = some v → ∃ k, ks[i]? = some k ∧ knd.is k v = true ∧ v.scannable = true)
    (fin : ∀ (h' : Heap) (tk : Nat), h'.SetOf knd s.heap.objs.size (mem ks items.size) (cnt ks items.size) →
      (∀ b o, b < s.heap.objs.size → s.heap.get? b = some o → h'.get? b = some o) → Q (.ref s.heap.objs.size) { s with heap := h', toks := tk }) :
    wpAny (model prog w) A (call (.type "set") [.ref l]) Q E s := by
  obtain ⟨c, tl, hmro⟩ := F.called_set.mro
  have q1 := F.called_set.made
  have q2 := F.called_set.sub
  refine wpAny_call (codeAny_of_tree ?_)
  show wpAny _ _ (callAny (.type "set") _) _ _ _
  have quiet : (Code.builtin "type.__call__" ⟨Value.type "set" :: [Value.ref l], []⟩).quiet = true :=
    Code.quiet_builtin _ (by decide +kernel)
  refine wpAny_pure ⟨quiet, codeAny_builtin F.entry_type_call ?_⟩
  rw [Around.under_plain (weight_type_call_type "set" [.ref l] []) rfl]
  have q3 := F.called_set.notType
  have q4 := F.called_set.canCreate
  have q5 := F.typeCall_set_1 (.ref l)
  repeat (any_goals (first | assumption | wp_step))
  let made := fun (obj : Value) (t : Shared) => ∃ led : Bool, obj = .ref s.heap.objs.size ∧ t = { s with heap := s.heap.push (freshSet led) }
  refine codeAny_mono (code_set_new_1 (.ref l) (E := E) (Q₁ := made) fun led => ⟨led, rfl, rfl⟩) ?_
  rintro (e | fl) t hr
  · exact hr
  cases fl with
  | ret obj =>
    obtain ⟨led, rfl, rfl⟩ := hr
    have hS : (s.heap.push (freshSet led)).get? s.heap.objs.size = some (freshSet led) := Heap.get?_push_size _ rfl
    have hT : Shared.TypeIs { s with heap := s.heap.push (freshSet led) } (.ref s.heap.objs.size) "set" := ⟨_, hS, rfl⟩
    have q6 := F.called_set.init.lookup
    have q7 := F.called_set.init.bind (.ref s.heap.objs.size)
    repeat (any_goals (first | assumption | wp_step))
    let filled := fun (r : Value) (t : Shared) => r = Value.none ∧ ∃ h' tk, t = { s with heap := h', toks := tk } ∧
      h'.SetOf knd s.heap.objs.size (mem ks items.size) (cnt ks items.size) ∧
      ∀ b o, b < s.heap.objs.size → s.heap.get? b = some o → h'.get? b = some o
    refine codeAny_mono (codeAny_call_builtin (R := wants filled E) F.called_set.init.plain F.entry_set_init (check_set_init_1 hT ?_)) ?_
    · obtain ⟨⟨cls, dd, dat, sl⟩, ho, hc, nl, hd⟩ := hl
      simp only at hc hd
      subst hc hd
      have ho' : (s.heap.push (freshSet led)).get? l = some { cls := .type "list", dict := dd, data := .seq items nl, slots := sl } :=
        Heap.get?_push_of_some _ ho
      have q8 := F.sub_list_set
      have q9 := F.sub_list_frozenset
      have q10 : (Value.type "list" == Value.type "dict") = false := by decide
      have il : (s.heap.push (freshSet led)).IsList l items := ⟨_, ho', rfl, nl, rfl⟩
      unfold Builtin.«set.__init__» noKeywords Builtin.Frozenset.updateFrom
      generalize hPI : pyIter = PI
      wp_walk
      subst hPI
      refine wpAny_pyIter_list il ?_
      refine wpAny_bind (wpAny_runValue ?_)
      have lS : l < s.heap.objs.size := Heap.lt_size ho
      have h3 : A.in1.in1.in1.handled = none := by simp [hh]
      have nI : l ≠ (s.heap.push (freshSet led)).objs.size := by
        rw [Heap.size_push]
        exact Nat.ne_of_lt (Nat.lt_succ_of_lt lS)
      have nS : s.heap.objs.size ∉ [(s.heap.push (freshSet led)).objs.size, l] := by
        rw [Heap.size_push]
        simp only [List.mem_cons, List.mem_singleton, List.not_mem_nil, or_false, not_or]
        exact ⟨Nat.ne_of_lt (Nat.lt_succ_self _), Nat.ne_of_gt lS⟩
      refine set_loop ((Walks.list h3 _ l nI items).toS) s.heap.objs.size nS ks hk hn hv (items.size - 0) 0 _ (by omega) (Nat.zero_le _)
        ⟨⟨_, Heap.get?_push_size _ rfl, rfl, rfl⟩, il.push _⟩ ?start ?stop
      case start =>
        have g : ((s.heap.push (freshSet led)).push { cls := .type "list_iterator", data := .fields #[.ref l, .int 0 0] }).get? s.heap.objs.size = some (freshSet led) :=
          Heap.get?_push_of_some _ hS
        have z := (setObjOf_fresh (knd := knd) led).setOf g (by unfold scanBound; omega)
        exact SetOf_congr z (fun k => by simp [mem]) rfl
      case stop =>
        rintro ⟨h', g', d', tk', os'⟩ mv hS'
        have eg : g' = s.gens := mv.gens
        have ed : d' = s.drawn := mv.drawn
        have eo : os' = s.os := mv.os
        subst eg ed eo
        show wpAny _ _ _ _ _ _
        refine wpAny_pure ?_
        show wpAny _ _ (ret Value.none) _ _ _
        refine wpAny_pure ⟨rfl, h', tk', rfl, hS', fun b o hb e => ?_⟩
        have n1 : b ≠ s.heap.objs.size := Nat.ne_of_lt hb
        have n2 : b ≠ (s.heap.push (freshSet led)).objs.size := by
          rw [Heap.size_push]
          exact Nat.ne_of_lt (Nat.lt_succ_of_lt hb)
        refine mv.heap b o ?_ (Heap.get?_push_of_some _ (Heap.get?_push_of_some _ e))
        simp only [List.mem_cons, List.mem_singleton, List.not_mem_nil, or_false, not_or]
        exact ⟨n1, n2⟩
    · rintro (e | fl2) t2 hr2
      · exact hr2
      cases fl2 with
      | ret r =>
        obtain ⟨rfl, h', tk, rfl, hS', hk'⟩ := hr2
        repeat (any_goals (first | assumption | wp_step))
        exact fin _ _ hS' hk'
      | _ => exact hr2.elim
  | _ => exact hr.elim
end

end Sx

set_option Elab.async false
set_option linter.all false
set_option maxRecDepth 100000
set_option maxHeartbeats 8000000
/-! set(..) of a tuple; len(set(..)). -/
namespace Sx
open PySem PySem.Spec PyProof.Rows L2 G D L

section
variable {prog : Program} {w : World} {A : Around} {E : Value → Shared → Prop} {s : Shared} {κ : Type} [DecidableEq κ] {knd : KeyKind prog w κ}
theorem set_of_tuple {l : Addr} {items : Array Value} {ks : List κ} {Q : Value → Shared → Prop} (hh : A.handled = none) (hl : s.heap.IsTuple l items)
    (hk : ks.length = items.size) (hn : items.size < 4000) (hv : ∀ (i : Nat) (v : Value), items[i]? = some v → ∃ k, ks[i]? = some k ∧ knd.is k v = true ∧ v.scannable = true)
    (fin : ∀ (h' : Heap) (tk : Nat), h'.SetOf knd s.heap.objs.size (mem ks items.size) (cnt ks items.size) →
      (∀ b o, b < s.heap.objs.size → s.heap.get? b = some o → h'.get? b = some o) → Q (.ref s.heap.objs.size) { s with heap := h', toks := tk }) :
    wpAny (model prog w) A (call (.type "set") [.ref l]) Q E s := by
  obtain ⟨c, tl, hmro⟩ := F.called_set.mro
  have q1 := F.called_set.made
  have q2 := F.called_set.sub
  refine wpAny_call (codeAny_of_tree ?_)
  show wpAny _ _ (callAny (.type "set") _) _ _ _
  have quiet : (Code.builtin "type.__call__" ⟨Value.type "set" :: [Value.ref l], []⟩).quiet = true :=
    Code.quiet_builtin _ (by decide +kernel)
  refine wpAny_pure ⟨quiet, codeAny_builtin F.entry_type_call ?_⟩
  rw [Around.under_plain (weight_type_call_type "set" [.ref l] []) rfl]
  have q3 := F.called_set.notType
  have q4 := F.called_set.canCreate
  have q5 := F.typeCall_set_1 (.ref l)
  repeat (any_goals (first | assumption | wp_step))
  let made := fun (obj : Value) (t : Shared) => ∃ led : Bool, obj = .ref s.heap.objs.size ∧ t = { s with heap := s.heap.push (freshSet led) }
  refine codeAny_mono (code_set_new_1 (.ref l) (E := E) (Q₁ := made) fun led => ⟨led, rfl, rfl⟩) ?_
  rintro (e | fl) t hr
  · exact hr
  cases fl with
  | ret obj =>
    obtain ⟨led, rfl, rfl⟩ := hr
    have hS : (s.heap.push (freshSet led)).get? s.heap.objs.size = some (freshSet led) := Heap.get?_push_size _ rfl
    have hT : Shared.TypeIs { s with heap := s.heap.push (freshSet led) } (.ref s.heap.objs.size) "set" := ⟨_, hS, rfl⟩
    have q6 := F.called_set.init.lookup
    have q7 := F.called_set.init.bind (.ref s.heap.objs.size)
    repeat (any_goals (first | assumption | wp_step))
    let filled := fun (r : Value) (t : Shared) => r = Value.none ∧ ∃ h' tk, t = { s with heap := h', toks := tk } ∧
      h'.SetOf knd s.heap.objs.size (mem ks items.size) (cnt ks items.size) ∧
      ∀ b o, b < s.heap.objs.size → s.heap.get? b = some o → h'.get? b = some o
    refine codeAny_mono (codeAny_call_builtin (R := wants filled E) F.called_set.init.plain F.entry_set_init (check_set_init_1 hT ?_)) ?_
    · obtain ⟨⟨cls, dd, dat, sl⟩, ho, hc, nl, hd⟩ := hl
      simp only at hc hd
      subst hc hd
      have ho' : (s.heap.push (freshSet led)).get? l = some { cls := .type "tuple", dict := dd, data := .seq items nl, slots := sl } :=
        Heap.get?_push_of_some _ ho
      have q8 := F.sub_tuple_set
      have q9 := F.sub_tuple_frozenset
      have q10 : (Value.type "tuple" == Value.type "dict") = false := by decide
      have il : (s.heap.push (freshSet led)).IsTuple l items := ⟨_, ho', rfl, nl, rfl⟩
      unfold Builtin.«set.__init__» noKeywords Builtin.Frozenset.updateFrom
      generalize hPI : pyIter = PI
      wp_walk
      subst hPI
      refine wpAny_pyIter_tuple il ?_
      refine wpAny_bind (wpAny_runValue ?_)
      have lS : l < s.heap.objs.size := Heap.lt_size ho
      have h3 : A.in1.in1.in1.handled = none := by simp [hh]
      have nI : l ≠ (s.heap.push (freshSet led)).objs.size := by
        rw [Heap.size_push]
        exact Nat.ne_of_lt (Nat.lt_succ_of_lt lS)
      have nS : s.heap.objs.size ∉ [(s.heap.push (freshSet led)).objs.size, l] := by
        rw [Heap.size_push]
        simp only [List.mem_cons, List.mem_singleton, List.not_mem_nil, or_false, not_or]
        exact ⟨Nat.ne_of_lt (Nat.lt_succ_self _), Nat.ne_of_gt lS⟩
      refine set_loop ((Walks.tuple h3 _ l nI items).toS) s.heap.objs.size nS ks hk hn hv (items.size - 0) 0 _ (by omega) (Nat.zero_le _)
        ⟨⟨_, Heap.get?_push_size _ rfl, rfl, rfl⟩, il.push _⟩ ?start ?stop
      case start =>
        have g : ((s.heap.push (freshSet led)).push { cls := .type "tuple_iterator", data := .fields #[.ref l, .int 0 0] }).get? s.heap.objs.size = some (freshSet led) :=
          Heap.get?_push_of_some _ hS
        have z := (setObjOf_fresh (knd := knd) led).setOf g (by unfold scanBound; omega)
        exact SetOf_congr z (fun k => by simp [mem]) rfl
      case stop =>
        rintro ⟨h', g', d', tk', os'⟩ mv hS'
        have eg : g' = s.gens := mv.gens
        have ed : d' = s.drawn := mv.drawn
        have eo : os' = s.os := mv.os
        subst eg ed eo
        show wpAny _ _ _ _ _ _
        refine wpAny_pure ?_
        show wpAny _ _ (ret Value.none) _ _ _
        refine wpAny_pure ⟨rfl, h', tk', rfl, hS', fun b o hb e => ?_⟩
        have n1 : b ≠ s.heap.objs.size := Nat.ne_of_lt hb
        have n2 : b ≠ (s.heap.push (freshSet led)).objs.size := by
          rw [Heap.size_push]
          exact Nat.ne_of_lt (Nat.lt_succ_of_lt hb)
        refine mv.heap b o ?_ (Heap.get?_push_of_some _ (Heap.get?_push_of_some _ e))
        simp only [List.mem_cons, List.mem_singleton, List.not_mem_nil, or_false, not_or]
        exact ⟨n1, n2⟩
    · rintro (e | fl2) t2 hr2
      · exact hr2
      cases fl2 with
      | ret r =>
        obtain ⟨rfl, h', tk, rfl, hS', hk'⟩ := hr2
        repeat (any_goals (first | assumption | wp_step))
        exact fin _ _ hS' hk'
      | _ => exact hr2.elim
  | _ => exact hr.elim
end

section
variable {X : Cx}
/-- len(set(a)), a a list or a tuple of texts -/
def tLenSetS (ta : TE) : TE := fun σ H Q => ta σ H fun x H1 => ∃ (l : Addr) (ks : List Str), x = .ref l ∧
  (H1 l = some (.lst (ks.map V.str)) ∨ H1 l = some (.tup (ks.map V.str))) ∧ ks.length < 4000 ∧ Q (.int (cnt ks ks.length : Nat)) H1
theorem val_strs : ∀ {ks : List Str} {its : List Value}, Vals (ks.map V.str) its → ∀ (i : Nat) (v : Value), its[i]? = some v → ∃ t, v = .str (ks.getD i Str.empty) t ∧ i < ks.length
  | [], _, .nil, i, v, e => by simp at e
  | x :: ks, _, .cons r t, 0, v, e => by
    obtain ⟨tk, rfl⟩ := (show ∃ t, _ = Value.str x t from r)
    simp at e
    subst e
    exact ⟨tk, by simp, by simp⟩
  | x :: ks, _, .cons r t, i + 1, v, e => by
    obtain ⟨tk, h1, h2⟩ := val_strs t i v (by simpa using e)
    exact ⟨tk, by simpa using h1, by simpa using h2⟩
theorem pe_lenSetS {a : Expr} {ta : TE} {p p2 q pos : Pos} (hc : X.calm = true) (hg : Gl X "len") (hm : X.mg "len" = none) (hg2 : Gl X "set")
    (hm2 : X.mg "set" = none) (ha : PE X a ta) (na : starEach [a] X.env = (false, eval a X.env) :: starEach [] X.env := by rfl) :
    PE X (.Call (.Name "len" p) [.Call (.Name "set" p2) [a] [] q] [] pos) (tLenSetS ta) := by
  constructor
  intro pins s σ H Q I h
  refine Call_ (ld_blt I hg hm boot_len ?_)
  refine callWith_builtin1 (args_cons ?_ rfl) rfl rfl
  refine Call_ (ld_blt I hg2 hm2 boot_set ?_)
  have hA := ha.run pins s σ H _ I h
  refine callWith_type1 (args_cons (thn hA ?_) na) na rfl
  rintro v s1 ⟨x, H1, I1, r1, l, ks, rfl, hl, hn, k⟩
  cases (show v = Value.ref l from r1)
  refine args_nil ?_
  have val : ∀ (its : List Value), Vals (ks.map V.str) its → ∀ (i : Nat) (v : Value), its.toArray[i]? = some v → ∃ k, ks[i]? = some k ∧ (strKind X.prog X.w).is k v = true ∧ v.scannable = true := by
    intro its r i v e
    obtain ⟨t, e1, hi⟩ := val_strs r i v (by simpa using e)
    subst e1
    refine ⟨ks.getD i Str.empty, by rw [List.getD_eq_getElem?_getD, List.getElem?_eq_getElem hi]; rfl, strKind_is _ _ _ _, rfl⟩
  have fin : ∀ (its : List Value), Vals (ks.map V.str) its → ∀ (h' : Heap) (tk : Nat),
      h'.SetOf (strKind X.prog X.w) s1.heap.objs.size (mem ks its.toArray.size) (cnt ks its.toArray.size) →
      (∀ b o, b < s1.heap.objs.size → s1.heap.get? b = some o → h'.get? b = some o) →
      wpAny (model X.prog X.w) X.A (spliced (backTo pos (starEach [] X.env)))
        (fun vs t => wpAny (model X.prog X.w) X.A (call (.builtin "len") (Value.ref s1.heap.objs.size :: vs)) (EP X pins σ Q) X.xe t) X.xe
        { s1 with heap := h', toks := tk } := by
    intro its r h' tk hS hk
    refine args_nil ?_
    have hl : its.toArray.size = ks.length := by rw [List.size_toArray, ← r.length, List.length_map]
    rw [hl] at hS
    obtain ⟨o, es, ep, t, ho, hex, hd, _, _, _, hf, hsz⟩ := hS
    have I2 : Inv X pins σ H1 { s1 with heap := h', toks := tk } := I1.kept fun b o e => hk b o (Heap.lt_size e) e
    have le := cnt_le ks ks.length
    refine call_len_set ho hex hd hf (by rw [hsz]; omega) ⟨.int (cnt ks ks.length : Nat), H1, I2.tok _, ⟨_, by rw [hsz]⟩, k⟩
  rcases hl with hl | hl
  · obtain ⟨_, its, n, r, ho⟩ := (show ObjOk X.prog X.w H1 s1.heap l (.lst (ks.map V.str)) from I1.hok l _ hl)
    have len : ks.length = its.toArray.size := by rw [List.size_toArray, ← r.length, List.length_map]
    exact set_of_list (knd := strKind X.prog X.w) (I1.ok.hd hc) ⟨_, ho, rfl, n, rfl⟩ len (by omega) (val its r) (fin its r)
  · obtain ⟨_, its, r, o, ho, hcl, n, hd⟩ := (show ObjOk X.prog X.w H1 s1.heap l (.tup (ks.map V.str)) from I1.hok l _ hl)
    have len : ks.length = its.toArray.size := by rw [List.size_toArray, ← r.length, List.length_map]
    exact set_of_tuple (knd := strKind X.prog X.w) (I1.ok.hd hc) ⟨o, ho, hcl, n, hd⟩ len (by omega) (val its r) (fin its r)
end
end Sx

set_option Elab.async false
set_option linter.all false
set_option maxRecDepth 100000
set_option maxHeartbeats 8000000
namespace K
open PySem PySem.Spec PyProof.Rows L2 G D L S C Sx
open C8 (pss_cut tCut)
open PySem.W (dataLt alike)
def strOf : Dat → Str
  | .str x => x
  | _ => Str.empty
/-- different names -/
def namesIn (ds : List Dat) : Bool := ds.all isName && decide ((ds.map strOf).Nodup)
def areNames : Dat → Bool
  | .lst ds => namesIn ds
  | .tup ds => namesIn ds
  | _ => false
def isPair : Dat → Bool
  | .tup [a, b] => isName a && isName b
  | _ => false
def arePairs : Dat → Bool
  | .lst ds => ds.all isPair
  | .tup ds => ds.all isPair
  | _ => false
theorem names_strs : ∀ {ds : List Dat}, ds.all isName = true → ds = (ds.map strOf).map Dat.str
  | [], _ => rfl
  | d :: ds, h => by
    rw [List.all_cons, Bool.and_eq_true] at h
    have ih := names_strs h.2
    cases d with
    | str x =>
      rw [List.map_cons, List.map_cons, ← ih]
      rfl
    | _ => cases h.1
theorem all_map_id {α : Type} (f : α → Bool) (xs : List α) : (xs.map f).all id = xs.all f := by rw [List.all_map]; rfl
theorem map_bl {α : Type} (f : α → Bool) (xs : List α) : (xs.map fun a => V.bl (f a)) = (xs.map f).map V.bl := by rw [List.map_map]; rfl
section
variable {P : Program} {w : World} {K : PySem.W.Frag} {mg : Str → Option Value} {base : Heap}
abbrev s_are_names : Stmt := top 8
theorem sc_are_names : FnScope ["thing", "part"] ["thing"] (defScope s_are_names) := ⟨rfl, rfl, rfl, by decide +kernel, rfl, by decide +kernel, by decide +kernel⟩
theorem names_end {ds : List Dat} {vs : List V} {H : Hp} (hr : RepAll K H vs ds) (hn : ds.all isName = true) :
    vs = (ds.map strOf).map V.str ∧ (decide (V.int (cnt (ds.map strOf) (ds.map strOf).length : Nat) = V.int (vs.length : Nat))) = namesIn ds := by
  have e := names_strs hn
  have e2 : vs = (ds.map strOf).map V.str := RepAll.strs (K := K) (H := H) (by rw [← e]; exact hr)
  refine ⟨e2, ?_⟩
  have hl : vs.length = (ds.map strOf).length := by rw [e2, List.length_map]
  unfold namesIn
  rw [hn, Bool.true_and, hl]
  have c := cnt_all (ds.map strOf) (ds.map strOf).length (Nat.le_refl _)
  rw [List.take_length] at c
  by_cases q : (ds.map strOf).Nodup
  · rw [decide_eq_true q, c.mpr q]
    simp
  · rw [decide_eq_false q]
    exact decide_eq_false fun z => q (c.mp (Int.ofNat.inj (V.int.inj z)))
theorem ok_are_names {f : Addr} {fd : FuncData} (F : Fun K "are_names" "are_names" s_are_names f fd) (T : Bl mg)
    (D_is_name : Def P w K mg base 2 "is_name" ["thing"] (spB K Wd isName)) :
    Fn P w K mg base CX0 3 f fd ["thing"] (spB K (fun d => Wd d ∧ ∀ ds, d = .lst ds ∨ d = .tup ds → ds.length < 4000) areNames) := by
  refine fn_calm F sc_are_names (fun vs H Q E h => ?_) (fun cdv A outer s H vs Q E hc hr h => ?_)
  · obtain ⟨v, d, rfl, _⟩ := h
    rfl
  · obtain ⟨v, d, rfl, hv, ⟨hw, h4⟩, k⟩ := h
    have no : ∀ H', Same H H' → areNames d = false → Q (.bl false) H' := fun H' s e => by
      have z := k H' s
      rw [e] at z
      exact z
    cases d with
    | lst ds =>
      refine ⟨_, (pss_cons (ps_if (PW.pt (pw_or (pt_not (pt_val (pe_callB call_isiT (by rfl) T.isinstanceN (by decide +kernel) (pa_cons (pv 0) (pa_cons (pe_tup (pa_cons (pe_bltn (v := .ty "list") (by rfl) T.listN (by decide +kernel) rfl) (pa_cons (pe_bltn (v := .ty "tuple") (by rfl) T.tupleN (by decide +kernel) rfl) pa_nil))) pa_nil))))) (pw_or1 (pt_not (pt_val (pe_callB (cr_all rfl) (by rfl) T.allN (by decide +kernel) (pa_cons (pe_lc (own := [("part", 1)]) (g := gName 1) (tt := tYes) rfl sc_are_names.nd (pi_list (pv 0)) (blkOk_by (N := ["thing", "part"]) (sc := defScope s_are_names) (by decide +kernel)) (fun _ _ _ _ _ => (pg_name (i := 1) sc_are_names.nd rfl (Or.inl rfl))) (fun _ _ _ _ _ => pts_nil) (fun _ _ _ _ _ => (pe_def D_is_name hc (hr.mono (by decide)) (pa_cons (pv 1) pa_nil)))) pa_nil)))))))
  (pss_one (ps_ret pe_bl))
  pss_nil)
 (pss_one (ps_ret (pe_cmpR op_eq (pe_lenSetS rfl (by rfl) T.lenN (by rfl) T.setN (pv 0)) (pe_callB call_len_seq (by rfl) T.lenN (by decide +kernel) (pa_cons (pv 0) pa_nil)) (nomark _))))), ?_⟩
      refine ⟨_, rfl, by show 2 ≤ sizeLine; decide, fun p hp => ?_⟩
      have s1 := same_upd (o := .tup [.ty "list", .ty "tuple"]) hp
      have hv1 := Rep.mono s1 _ hv
      refine ⟨_, p, _, _, _, _, rfl, upd_same, .cons (.ty _) (.cons (.ty _) .nil), hv1.ty, kit_seq hv1, _, rfl, ?_⟩
      refine iteF ?_
      obtain ⟨a, xs, rfl, ha, hx⟩ := hv1
      refine ⟨_, rfl, a, rfl, ⟨xs, SqL.of ha⟩, fun D hD => lc_map (walk_list (xs := xs)) ds (fun d => .bl (isName d)) hx.length.symm ?_ hD (fun H' s => SqL.of (s _ _ ha)) ?_ ?_⟩
      · rw [hx.length]
        exact Nat.lt_of_le_of_lt (wd_lst hw).1 (by decide)
      · rintro i d y H1 H2 Kt hd hs ⟨rfl, hy⟩ kt
        obtain ⟨d', hd', hr'⟩ := hx.get hy
        obtain rfl : d' = d := Option.some.inj (hd'.symm.trans hd)
        exact ⟨rfl, _, rfl, y, d', rfl, Rep.mono hs _ hr', (wd_lst hw).2 _ (List.mem_of_getElem? hd), fun H' s => kt H' s⟩
      · intro H1 hs hd
        refine ⟨D, ds.map isName, rfl, SqL.of (by rw [← map_bl]; exact hd), _, rfl, ?_⟩
        rw [all_map_id]
        have s2 := s1.trans hs
        refine ite2 (fun e => ?_) (fun e => ?_)
        · exact no H1 s2 (by
            show namesIn ds = false
            unfold namesIn
            have : ds.all isName = false := by simpa using e
            rw [this]; rfl)
        · have hn : ds.all isName = true := by simpa using e
          obtain ⟨ev, eq⟩ := names_end (RepAll.mono hs _ hx) hn
          have ha2 := hs _ _ ha
          refine ⟨_, rfl, a, ds.map strOf, rfl, .inl (by rw [← ev]; exact ha2), by rw [List.length_map]; exact h4 ds (.inl rfl), ?_⟩
          refine ⟨_, rfl, a, _, rfl, .inl (SqL.of ha2), rfl, ?_⟩
          rw [eq]
          exact k H1 s2
    | tup ds =>
      refine ⟨_, (pss_cons (ps_if (PW.pt (pw_or (pt_not (pt_val (pe_callB call_isiT (by rfl) T.isinstanceN (by decide +kernel) (pa_cons (pv 0) (pa_cons (pe_tup (pa_cons (pe_bltn (v := .ty "list") (by rfl) T.listN (by decide +kernel) rfl) (pa_cons (pe_bltn (v := .ty "tuple") (by rfl) T.tupleN (by decide +kernel) rfl) pa_nil))) pa_nil))))) (pw_or1 (pt_not (pt_val (pe_callB (cr_all rfl) (by rfl) T.allN (by decide +kernel) (pa_cons (pe_lc (own := [("part", 1)]) (g := gName 1) (tt := tYes) rfl sc_are_names.nd (pi_tup (pv 0)) (blkOk_by (N := ["thing", "part"]) (sc := defScope s_are_names) (by decide +kernel)) (fun _ _ _ _ _ => (pg_name (i := 1) sc_are_names.nd rfl (Or.inl rfl))) (fun _ _ _ _ _ => pts_nil) (fun _ _ _ _ _ => (pe_def D_is_name hc (hr.mono (by decide)) (pa_cons (pv 1) pa_nil)))) pa_nil)))))))
  (pss_one (ps_ret pe_bl))
  pss_nil)
 (pss_one (ps_ret (pe_cmpR op_eq (pe_lenSetS rfl (by rfl) T.lenN (by rfl) T.setN (pv 0)) (pe_callB call_len_seq (by rfl) T.lenN (by decide +kernel) (pa_cons (pv 0) pa_nil)) (nomark _))))), ?_⟩
      refine ⟨_, rfl, by show 2 ≤ sizeLine; decide, fun p hp => ?_⟩
      have s1 := same_upd (o := .tup [.ty "list", .ty "tuple"]) hp
      have hv1 := Rep.mono s1 _ hv
      refine ⟨_, p, _, _, _, _, rfl, upd_same, .cons (.ty _) (.cons (.ty _) .nil), hv1.ty, kit_seq hv1, _, rfl, ?_⟩
      refine iteF ?_
      obtain ⟨a, xs, rfl, ha, hx⟩ := hv1
      refine ⟨_, rfl, a, rfl, ⟨xs, SqT.of ha⟩, fun D hD => lc_map (walk_tup (xs := xs)) ds (fun d => .bl (isName d)) hx.length.symm ?_ hD (fun H' s => SqT.of (s _ _ ha)) ?_ ?_⟩
      · rw [hx.length]
        exact Nat.lt_of_le_of_lt (wd_tup hw).1 (by decide)
      · rintro i d y H1 H2 Kt hd hs ⟨rfl, hy⟩ kt
        obtain ⟨d', hd', hr'⟩ := hx.get hy
        obtain rfl : d' = d := Option.some.inj (hd'.symm.trans hd)
        exact ⟨rfl, _, rfl, y, d', rfl, Rep.mono hs _ hr', (wd_tup hw).2 _ (List.mem_of_getElem? hd), fun H' s => kt H' s⟩
      · intro H1 hs hd
        refine ⟨D, ds.map isName, rfl, SqL.of (by rw [← map_bl]; exact hd), _, rfl, ?_⟩
        rw [all_map_id]
        have s2 := s1.trans hs
        refine ite2 (fun e => ?_) (fun e => ?_)
        · exact no H1 s2 (by
            show namesIn ds = false
            unfold namesIn
            have : ds.all isName = false := by simpa using e
            rw [this]; rfl)
        · have hn : ds.all isName = true := by simpa using e
          obtain ⟨ev, eq⟩ := names_end (RepAll.mono hs _ hx) hn
          have ha2 := hs _ _ ha
          refine ⟨_, rfl, a, ds.map strOf, rfl, .inr (by rw [← ev]; exact ha2), by rw [List.length_map]; exact h4 ds (.inr rfl), ?_⟩
          refine ⟨_, rfl, a, _, rfl, .inr (SqT.of ha2), rfl, ?_⟩
          rw [eq]
          exact k H1 s2
    | _ =>
      refine ⟨_, (pss_cons (ps_if (PW.pt (pw_or (pt_not (pt_val (pe_callB call_isiT (by rfl) T.isinstanceN (by decide +kernel) (pa_cons (pv 0) (pa_cons (pe_tup (pa_cons (pe_bltn (v := .ty "list") (by rfl) T.listN (by decide +kernel) rfl) (pa_cons (pe_bltn (v := .ty "tuple") (by rfl) T.tupleN (by decide +kernel) rfl) pa_nil))) pa_nil))))) (pw_or1 (pt_not (pt_val (pe_callB (cr_all rfl) (by rfl) T.allN (by decide +kernel) (pa_cons (pe_lc (own := [("part", 1)]) (g := gName 1) (tt := tYes) rfl sc_are_names.nd (pi_list (pv 0)) (blkOk_by (N := ["thing", "part"]) (sc := defScope s_are_names) (by decide +kernel)) (fun _ _ _ _ _ => (pg_name (i := 1) sc_are_names.nd rfl (Or.inl rfl))) (fun _ _ _ _ _ => pts_nil) (fun _ _ _ _ _ => (pe_def D_is_name hc (hr.mono (by decide)) (pa_cons (pv 1) pa_nil)))) pa_nil)))))))
  (pss_one (ps_ret pe_bl))
  pss_nil)
 (pss_one (ps_ret (pe_cmpR op_eq (pe_lenSetS rfl (by rfl) T.lenN (by rfl) T.setN (pv 0)) (pe_callB call_len_seq (by rfl) T.lenN (by decide +kernel) (pa_cons (pv 0) pa_nil)) (nomark _))))), ?_⟩
      refine ⟨_, rfl, by show 2 ≤ sizeLine; decide, fun p hp => ?_⟩
      have s1 := same_upd (o := .tup [.ty "list", .ty "tuple"]) hp
      have hv1 := Rep.mono s1 _ hv
      refine ⟨_, p, _, _, _, _, rfl, upd_same, .cons (.ty _) (.cons (.ty _) .nil), hv1.ty, kit_seq hv1, _, rfl, ?_⟩
      exact iteT (iteT (no _ s1 rfl))
end
end K

set_option Elab.async false
set_option linter.all false
set_option maxRecDepth 100000
set_option maxHeartbeats 8000000
namespace K
open PySem PySem.Spec PyProof.Rows L2 G D L
open C8 (pss_cut tCut)

abbrev s_law_take : Stmt := top 13
theorem sc_law_take : FnScope ["bag", "many", "cell", "mixed", "drawn", "begin", "second"] ["bag", "many"] (defScope s_law_take) := ⟨rfl, rfl, rfl, by decide +kernel, rfl, by decide +kernel, by decide +kernel⟩
section
variable {P : Program} {w : World} {K : PySem.W.Frag} {mg : Str → Option Value} {base : Heap}
theorem ok_take {f : Addr} {fd : FuncData} (F : Fun K "_law_take" "_law_take" s_law_take f fd) (T : Bl mg) :
    Fn P w K mg base CX0 2 f fd ["bag", "many"] spTake := by
  refine fn_calm F sc_law_take (fun vs H Q E h => ?_) (fun cdv A outer s H vs Q E hc hr h => ?_)
  · obtain ⟨b, m, rfl, _⟩ := h
    rfl
  · obtain ⟨b, m, rfl, ⟨l, hB⟩, m0, m1, k⟩ := h
    obtain ⟨c0, c1, c2, ms, h1, h2, p0, p1, p1', p2, pl, pm⟩ := id hB
    refine ⟨_, (pss_cut (ps_if (pt_cmpR op_eq (pe_ix ix_list (pv 0) pe_int (fun _ _ => rfl)) pe_int (nomark _))
  (pss_cons (ps_set (i := 2) sc_law_take.nd rfl (Or.inl rfl) pe_int)
 (pss_cut (ps_if (pt_cmpR op_lt (pe_ix ix_list (pv 0) pe_int (fun _ _ => rfl)) (pe_callB call_len (by rfl) T.lenN (by decide +kernel) (pa_cons (pe_ix ix_list (pv 0) pe_int (fun _ _ => rfl)) pa_nil)) (nomark _))
  (pss_one (ps_set (i := 2) sc_law_take.nd rfl (Or.inl rfl) (pe_ix ix_seq (pe_ix ix_list (pv 0) pe_int (fun _ _ => rfl)) (pe_ix ix_list (pv 0) pe_int (fun _ _ => rfl)) (fun _ _ => rfl))))
  pss_nil)
 (pss_cons (ps_augS (pv 0) pe_int pget_list pe_int ip_add set_list)
 (pss_cut (ps_if (pt_cmpR op_ge (pv 2) (pe_op op_pow pe_int pe_int) (nomark _))
  (pss_one (ps_asg (pv 2) (pg_sub (pv 0) pe_int set_list)))
  pss_nil)
 (pss_cons (ps_set (i := 3) sc_law_take.nd rfl (Or.inl rfl) (pe_op op_add (pe_op op_add (pe_op op_mul (pe_ix ix_list (pv 0) pe_int (fun _ _ => rfl)) pe_int) (pe_op op_mod (pe_callTy call_int1 (by rfl) T.intN (by decide +kernel) (pa_cons (pv 2) pa_nil)) pe_int)) (pe_op op_mul pe_int (pe_ix ix_list (pv 0) pe_int (fun _ _ => rfl)))))
 (pss_one (ps_asg (pe_op op_mod (pe_callTy call_int1 (by rfl) T.intN (by decide +kernel) (pa_cons (pv 3) pa_nil)) pe_int) (pg_sub (pv 0) pe_int set_list))))))))
  pss_nil)
 (pss_cons (ps_if (pt_cmpR op_gt (pe_ix ix_list (pv 0) pe_int (fun _ _ => rfl)) pe_int (nomark _))
  (pss_cons (ps_set (i := 4) sc_law_take.nd rfl (Or.inl rfl) (pe_op op_modN (pe_callTy call_int1 (by rfl) T.intN (by decide +kernel) (pa_cons (pe_ix ix_list (pv 0) pe_int (fun _ _ => rfl)) pa_nil)) (pv 1)))
 (pss_cons (ps_asg (pe_op op_fdivN (pe_ix ix_list (pv 0) pe_int (fun _ _ => rfl)) (pv 1)) (pg_sub (pv 0) pe_int set_list))
 (pss_one (ps_ret (pv 4)))))
  pss_nil)
 (pss_cons (ps_set (i := 5) sc_law_take.nd rfl (Or.inl rfl) (pe_op op_mod (pe_callTy call_int1 (by rfl) T.intN (by decide +kernel) (pa_cons (pe_op op_mul (pe_op op_add (pe_ix ix_list (pv 0) pe_int (fun _ _ => rfl)) pe_int) pe_int) pa_nil)) pe_int))
 (pss_cons (ps_set (i := 6) sc_law_take.nd rfl (Or.inl rfl) (pe_op op_mod (pe_callTy call_int1 (by rfl) T.intN (by decide +kernel) (pa_cons (pe_op op_mul (pe_op op_mod (pe_callTy call_int1 (by rfl) T.intN (by decide +kernel) (pa_cons (pe_op op_mul (pv 5) (pv 5)) pa_nil)) pe_int) pe_int) pa_nil)) pe_int))
 (pss_one (ps_ret (pe_op op_modN (pe_callTy call_int1 (by rfl) T.intN (by decide +kernel) (pa_cons (pe_op op_fdiv (pv 6) pe_int) pa_nil)) (pv 1)))))))), ?_⟩
    have nlb : l ≠ b := ne_of h2 h1 (fun z => by
      have z' := (HO.lst.inj z)
      cases ms with
      | nil => cases z'
      | cons a r => cases r with
        | nil => cases z'
        | cons a2 r => cases r with
          | nil => cases z'
          | cons a3 r => cases r with
            | nil => cases z'
            | cons a4 r => cases z')
    -- the bag's first place is nought, or a draw is still in it
    refine ⟨fun σ' H' => ∃ (d0 d1 d2 : Int) (x y : Option V), σ' = [some (.ref b), some (.int m), x, y, none, none, none] ∧ SameBut b H H' ∧
      H' b = some (.lst [.int d0, .int d1, .int d2, .ref l]) ∧ 0 ≤ d0 ∧ 0 ≤ d1 ∧ d1 < 2147483648 ∧ 0 ≤ d2, ?_, ?_⟩
    · refine ⟨_, rfl, b, _, _, _, rfl, rfl, SqL.of h1, rfl, rfl, _, rfl, ?_⟩
      refine ite2 (fun e0 => ?_) (fun e0 => ?_)
      · refine ⟨fun σ' H' => ∃ c : Int, σ' = [some (.ref b), some (.int m), some (.int c), none, none, none, none] ∧ H' = H ∧ 0 ≤ c, ?_, ?_⟩
        · refine ⟨_, rfl, b, _, _, _, rfl, rfl, SqL.of h1, rfl, _, rfl, b, _, _, _, rfl, rfl, SqL.of h1, rfl, _, _, rfl, .inl ⟨_, SqL.of h2, rfl⟩, _, _, rfl, rfl, _, rfl, ?_⟩
          refine ite2 (fun e1 => ?_) (fun e1 => ?_)
          · have e1' := of_decide_eq_true e1
            rw [List.length_map] at e1'
            have hj : c2.toNat < ms.length := by omega
            have hx : (ms.map V.int)[c2.toNat]? = some (.int (ms[c2.toNat])) := by rw [List.getElem?_map, List.getElem?_eq_getElem hj]; rfl
            have hx' := atI_nat hx
            rw [Int.toNat_of_nonneg p2] at hx'
            refine ⟨_, rfl, b, _, _, _, rfl, rfl, SqL.of h1, rfl, _, rfl, b, _, _, _, rfl, rfl, SqL.of h1, rfl, .inl ⟨_, _, _, _, rfl, rfl, SqL.of h2, hx', ?_⟩⟩
            exact ⟨_, rfl, rfl, pm _ (List.getElem_mem hj)⟩
          · exact ⟨0, rfl, rfl, Int.le_refl _⟩
        · rintro σ' H' ⟨c, rfl, rfl, hc0⟩
          refine ⟨_, rfl, b, _, _, _, rfl, rfl, SqL.of h1, rfl, _, _, rfl, rfl, b, _, _, 2, rfl, rfl, h1, rfl, ?_⟩
          refine ⟨fun σ' H1 => ∃ d : Int, σ' = [some (.ref b), some (.int m), some (.int c), none, none, none, none] ∧ SameBut b H' H1 ∧ H1 b = some (.lst [.int d, .int c1, .int (c2 + 1), .ref l]) ∧ 0 ≤ d, ?_, ?_⟩
          · refine ⟨_, rfl, _, _, rfl, rfl, ⟨by decide, by decide, by decide⟩, _, _, rfl, rfl, _, rfl, ?_⟩
            refine ite2 (fun e1 => ?_) (fun e1 => ?_)
            · exact ⟨_, rfl, _, rfl, b, _, _, 0, rfl, rfl, upd_same, rfl, c, rfl, fun x o n e => by rw [upd_ne n, upd_ne n]; exact e, upd_same, hc0⟩
            · exact ⟨c0, rfl, fun x o n e => by rw [upd_ne n]; exact e, upd_same, p0⟩
          · rintro σ' H1 ⟨d, rfl, sb, g1, hd⟩
            refine ⟨_, rfl, b, _, _, _, rfl, rfl, SqL.of g1, rfl, _, _, rfl, rfl, .inl ⟨by omega, by omega⟩, _, rfl, .inl ⟨_, rfl, _, _, rfl, rfl, by show (0 : Int) < 2147483647; decide, _, _, rfl, rfl, ?_⟩⟩
            refine ⟨_, rfl, b, _, _, _, rfl, rfl, SqL.of g1, rfl, _, _, rfl, rfl, .inl ⟨by decide, by decide⟩, _, _, rfl, rfl, ?_⟩
            refine ⟨_, rfl, .inl ⟨_, rfl, _, _, rfl, rfl, by show (0 : Int) < 2147483647; decide, _, rfl, b, _, _, 1, rfl, rfl, g1, rfl, ?_⟩⟩
            refine ⟨d, _, c2 + 1, _, _, rfl, fun x o n e => by rw [upd_ne n]; exact sb x o n e, upd_same, hd, ?_, ?_, by omega⟩
            · exact Int.emod_nonneg _ (by decide)
            · exact Int.lt_trans (Int.emod_lt_of_pos _ (by decide)) (by decide)
      · exact ⟨c0, c1, c2, none, none, rfl, .refl _ _, h1, p0, p1, p1', p2⟩
    · rintro σ' H' ⟨d0, d1, d2, x, y, rfl, sb, g1, q0, q1, q1', q2⟩
      have g2 := sb _ _ nlb h2
      refine ⟨_, rfl, b, _, _, _, rfl, rfl, SqL.of g1, rfl, _, _, rfl, rfl, _, rfl, ?_⟩
      refine ite2 (fun e0 => ?_) (fun e0 => ?_)
      · refine ⟨_, rfl, b, _, _, _, rfl, rfl, SqL.of g1, rfl, .inl ⟨_, rfl, _, rfl, _, _, rfl, rfl, by show m ≠ 0; omega, ?_⟩⟩
        refine ⟨_, rfl, b, _, _, _, rfl, rfl, SqL.of g1, rfl, _, rfl, _, _, rfl, rfl, ⟨by omega, by omega⟩, _, rfl, b, _, _, 0, rfl, rfl, g1, rfl, ?_⟩
        refine ⟨_, rfl, k _ _ ?_ ?_ (fun x o n e => by rw [upd_ne n]; exact sb x o n e) ⟨l, hB, _, _, _, _, upd_same, by rw [upd_ne nlb]; exact g2, ?_, q1, q1', q2, pl, pm⟩⟩
        · rw [Int.fmod_eq_emod_of_nonneg _ (by omega)]; exact Int.emod_nonneg _ (by omega)
        · rw [Int.fmod_eq_emod_of_nonneg _ (by omega)]; exact Int.emod_lt_of_pos _ m0
        · rw [Int.fdiv_eq_ediv_of_nonneg _ (by omega)]; exact Int.ediv_nonneg q0 (by omega)
      · refine ⟨_, rfl, b, _, _, _, rfl, rfl, SqL.of g1, rfl, _, _, rfl, rfl, _, _, rfl, rfl, .inl ⟨by omega, by omega⟩, .inl ⟨_, rfl, _, _, rfl, rfl, by show (0 : Int) < 1000000007; decide, ?_⟩⟩
        have b1 : 0 ≤ (d1 + 1) * 39373 % 1000000007 := Int.emod_nonneg _ (by decide)
        have b2 : (d1 + 1) * 39373 % 1000000007 < 1000000007 := Int.emod_lt_of_pos _ (by decide)
        generalize (d1 + 1) * 39373 % 1000000007 = z at b1 b2 ⊢
        refine ⟨_, rfl, _, rfl, _, _, rfl, rfl, .inl ⟨by omega, by omega⟩, .inl ⟨_, rfl, _, _, rfl, rfl, by show (0 : Int) < 998244353; decide, ?_⟩⟩
        have b3 : 0 ≤ z * z % 998244353 := Int.emod_nonneg _ (by decide)
        have b4 : z * z % 998244353 < 998244353 := Int.emod_lt_of_pos _ (by decide)
        generalize z * z % 998244353 = z2 at b3 b4 ⊢
        refine ⟨_, _, rfl, rfl, .inl ⟨by omega, by omega⟩, .inl ⟨_, rfl, _, _, rfl, rfl, by show (0 : Int) < 998244353; decide, ?_⟩⟩
        have b5 : 0 ≤ z2 * 30011 % 998244353 := Int.emod_nonneg _ (by decide)
        generalize z2 * 30011 % 998244353 = z3 at b5 ⊢
        refine ⟨_, rfl, _, _, rfl, rfl, ⟨by decide, by decide⟩, .inl ⟨_, rfl, _, rfl, _, _, rfl, rfl, by show m ≠ 0; omega, ?_⟩⟩
        refine k _ _ ?_ ?_ sb ⟨l, hB, _, _, _, _, g1, g2, q0, q1, q1', q2, pl, pm⟩
        · rw [Int.fmod_eq_emod_of_nonneg _ (by omega)]; exact Int.emod_nonneg _ (by omega)
        · rw [Int.fmod_eq_emod_of_nonneg _ (by omega)]; exact Int.emod_lt_of_pos _ m0
end
end K

set_option Elab.async false
set_option linter.all false
set_option maxRecDepth 100000
set_option maxHeartbeats 4000000
/-! The rules that speak of the written part, with that part named: for use within comprehensions. -/
namespace Kx
open PySem PySem.Spec PyProof.Rows L2 G D L S C Sx
open PySem.W (dataLt)
section
variable {X : Cx} {K : PySem.W.Frag}
theorem ix_listK (e : X.K = K) : IxR X (rIxL K) := e ▸ ix_list
theorem ix_tupK (e : X.K = K) : IxR X (rIxT K) := e ▸ ix_tup
theorem ix_seqK (e : X.K = K) : IxR X (rIx K) := e ▸ ix_seq
theorem call_lenK (e : X.K = K) : CallR X (.builtin "len") (fun xs H Q => ∃ x n, xs = [x] ∧ LenV K x H n ∧ Q (.int (n : Nat)) H) := e ▸ call_len
theorem call_isiK' (e : X.K = K) : CallR X (.builtin "isinstance") (rIsi K) := e ▸ call_isi
theorem call_isiTK (e : X.K = K) : CallR X (.builtin "isinstance") (rIsiT K) := e ▸ call_isiT
theorem op_ltAK (e : X.K = K) (hu : X.A.units + 64 < cLine) : OpR X (compareOp .Lt) (rCmpA K dataLt) := e ▸ op_ltA hu
theorem op_geAK (e : X.K = K) (hu : X.A.units + 64 < cLine) : OpR X (compareOp .GtE) (rCmpA K fun d e => !dataLt d e) := e ▸ op_geA hu
theorem op_eq_strK (e : X.K = K) (hu : X.A.units + 1 < cLine) : OpR X (compareOp .Eq) (rEqStr K) := e ▸ op_eq_str hu
theorem call_reprK (e : X.K = K) (hc : Calm X.A) (hM : HasMods X.base) (hu : X.A.units + 110 < cLine) : CallR X (.builtin "repr") (rRepr K) := e ▸ call_repr hc hM hu
end
end Kx

set_option Elab.async false
set_option linter.all false
set_option maxRecDepth 100000
set_option maxHeartbeats 4000000
/-! x == y, x an instance whose class has an == of its own. -/
namespace Ex
open PySem PySem.Spec PyProof.Rows L2 G D L S C Sx Kx
/-- the == of the class at C, with its promise -/
structure EqM (P : Program) (w : World) (K : PySem.W.Frag) (mg : Str → Option Value) (base : Heap) (k : Nat) (C : Addr) (ps : List Str) (sp : Sp) where
  f : Addr
  fd : FuncData
  ok : Fn P w K mg base CX0 k f fd ps sp
  b : Binds K fd ps []
  hs : PySem.W.findIn K (.ref C) "__eq__" = some (some (.ref f))
  hf : PySem.W.isFn K (.ref f) = true
  nf : ∀ T ∈ ["NoneType", "bool", "int", "str", "list", "tuple", "dict"], PySem.W.notFirst K C (.type T) = true
  nfo : PySem.W.notFirst K C (.ref C) = true
theorem py_type {d : Dat} (h : d.pure = true) : PySem.W.dataType d.py = d.ty ∧ ∃ T ∈ ["NoneType", "bool", "int", "str", "list", "tuple", "dict"], d.ty = .type T := by
  cases d with
  | obj C a => cases h
  | _ => exact ⟨rfl, _, by decide, rfl⟩
section
variable {X : Cx} {k : Nat} {C : Addr} {ps : List Str} {sp : Sp}
def rEqO (K : PySem.W.Frag) (C : Addr) (sp : Sp) : R2 := fun x y H Q => ∃ a dx fs d, x = .ref a ∧ H a = some (.ins C dx fs) ∧ Rep K H y d ∧
  (d.pure = true ∨ ∃ a2, d = .obj C a2) ∧ sp [x, y] H (fun v H' => ∃ b, v = .bl b ∧ Q (.bl b) H') E0
theorem op_eqO (M : EqM X.prog X.w X.K X.mg X.base k C ps sp) (hc : Calm X.A) (hr : Room k X.A) (hps : ps.length = 2) : OpR X (compareOp .Eq) (rEqO X.K C sp) := by
  intro pins s σ H x y v u Q I rx ry h
  obtain ⟨a, dx, fs, d, rfl, ha, hd, hk, q⟩ := h
  cases (show v = Value.ref a from rx)
  obtain ⟨mA, J, _⟩ := ins_get I.hok ha
  obtain ⟨od, J, _⟩ := J.look
  obtain ⟨m, hF⟩ := I.fr
  have run : wpAny (model X.prog X.w) X.A (call (.ref M.f) [.ref a, u]) (PySem.W.CmpBack (EP X pins σ Q)) X.xe s := by
    have rv : Vals [V.ref a, y] [Value.ref a, u] := .cons rfl (.cons ry .nil)
    have go := callR_fn M.ok hc hr M.b .nil (E := E0) pass0 pins s σ H [V.ref a, y] [Value.ref a, u] _ I rv q
    refine wpAny_mono go ?_ fun _ _ z => z
    rintro r s' ⟨z, H', I', rz, b, rfl, qb⟩
    cases (show r = Value.bool b from rz)
    exact ⟨.bl b, H', I', rfl, qb⟩
  rcases hk with hp | ⟨a2, rfl⟩
  · obtain ⟨as, hr2, _⟩ := Rep.reads I d y u hd hp ry
    have lk := PySem.W.looks_reads (M := model X.prog X.w) hr2
    obtain ⟨e, T, hT, e2⟩ := py_type hp
    rw [e, e2] at lk
    exact PySem.W.cmp_K (op := .Eq) hr.units0 hF I.ok.mod.kin J lk (M.nf T hT) M.hs M.hf run
  · obtain ⟨rfl, o, dx2, fs2, e2⟩ := hd
    cases (show u = Value.ref a2 from ry)
    obtain ⟨mB, J', _⟩ := ins_get I.hok e2
    obtain ⟨od', J', _⟩ := J'.look
    exact PySem.W.cmp_K (op := .Eq) hr.units0 hF I.ok.mod.kin J J'.type M.nfo M.hs M.hf run
/-- x == a text, x data or an instance of the class at C -/
def rEqS (K : PySem.W.Frag) (C : Addr) (sp : Sp) : R2 := fun x y H Q => rEqStr K x y H Q ∨ rEqO K C sp x y H Q
theorem op_eqS (M : EqM X.prog X.w X.K X.mg X.base k C ps sp) (hc : Calm X.A) (hr : Room k X.A) (hps : ps.length = 2) (hu : X.A.units + 1 < cLine) : OpR X (compareOp .Eq) (rEqS X.K C sp) := by
  intro pins s σ H x y v u Q I rx ry h
  rcases h with h | h
  · exact op_eq_str hu pins s σ H x y v u Q I rx ry h
  · exact op_eqO M hc hr hps pins s σ H x y v u Q I rx ry h
/-- an instance of the class at C is not equal to a text -/
def spNe (C : Addr) : Sp := fun vs H Q _ => ∃ a t dx fs, vs = [.ref a, .str t] ∧ H a = some (.ins C dx fs) ∧ ∀ H', Same H H' → Q (.bl false) H'
end
end Ex

set_option Elab.async false
set_option linter.all false
set_option maxRecDepth 100000
set_option maxHeartbeats 4000000
/-! Written data: an expression of constants, lists, tuples and small dicts, read at one stroke. -/
namespace Lt
open PySem PySem.Spec PyProof.Rows L2 G D L S C Sx Kx
def constD : Expr → Option Dat
  | .Constant .none _ _ => some .non
  | .Constant (.bool b) _ _ => some (.bl b)
  | .Constant (.int i) _ _ => some (.int i)
  | .Constant (.str x) _ _ => some (.str x)
  | _ => none
def keyOf : Expr → Option Key
  | .Constant (.int i) _ _ => some (.inl i)
  | .Constant (.str x) _ _ => some (.inr x)
  | _ => none
def litD : Nat → Expr → Option Dat
  | 0, _ => none
  | n + 1, e => match e with
    | .List es _ => (es.mapM (litD n)).map .lst
    | .Tuple es _ _ => (es.mapM (litD n)).map .tup
    | .Dict [] [] _ => some (.dct [] [])
    | .Dict [some k] [v] _ => match keyOf k, litD n v with
      | some kk, some d => some (.dct [kk] [d])
      | _, _ => none
    | .UnaryOp .USub a _ => match litD n a with
      | some (.int i) => some (.int (-i))
      | _ => none
    | .BinOp a .Pow b _ => match litD n a, litD n b with
      | some (.int i), some (.int j) => if 0 ≤ j ∧ j ≤ 1000000 ∧ i.natAbs < 2 ^ 64 then some (.int (i ^ j.toNat)) else none
      | _, _ => none
    | e => constD e
/-- the union: the first one's word stands -/
def uni (A B : Hp) : Hp := fun x => match A x with
  | some o => some o
  | none => B x
theorem uni_l {A B : Hp} : Same A (uni A B) := fun x o e => by unfold uni; rw [e]
theorem uni_r {A B : Hp} (h : ∀ x o, B x = some o → A x = none) : Same B (uni A B) := fun x o e => by unfold uni; rw [h x o e]; exact e
theorem uni_sub {A B H : Hp} (a : Same A H) (b : Same B H) : Same (uni A B) H := fun x o e => by
  unfold uni at e
  cases q : A x with
  | some u => rw [q] at e; rw [← Option.some.inj e]; exact a x u q
  | none => rw [q] at e; exact b x o e
/-- N is new over H, in H' -/
structure New (H N H' : Hp) : Prop where
  old : Same H H'
  sub : Same N H'
  dis : ∀ x o, N x = some o → H x = none
theorem New.nil (H : Hp) : New H (fun _ => none) H := ⟨.refl H, fun _ _ e => (nomatch e), fun _ _ e => (nomatch e)⟩
theorem New.trans {H N H1 N2 H2 : Hp} (a : New H N H1) (b : New H1 N2 H2) : New H (uni N N2) H2 := by
  refine ⟨a.old.trans b.old, uni_sub (a.sub.trans b.old) b.sub, fun x o e => ?_⟩
  unfold uni at e
  cases q : N x with
  | some u => exact a.dis x u q
  | none =>
    rw [q] at e
    exact a.old.free (b.dis x o e)
theorem New.right {H N H1 N2 H2 : Hp} (a : New H N H1) (b : New H1 N2 H2) : Same N2 (uni N N2) := uni_r fun x o e => a.sub.free (b.dis x o e)
theorem New.put {H N H1 : Hp} (a : New H N H1) {p : Addr} {o : HO} (hp : H1 p = none) : New H (upd N p o) (upd H1 p o) ∧ Same N (upd N p o) := by
  have np : N p = none := a.sub.free hp
  refine ⟨⟨fun x u e => ?_, fun x u e => ?_, fun x u e => ?_⟩, same_upd np⟩
  · rw [upd_ne (ne_of_none (a.old _ _ e) hp)]
    exact a.old _ _ e
  · by_cases q : x = p
    · subst q
      rw [upd_same] at e ⊢
      exact e
    · rw [upd_ne q] at e ⊢
      exact a.sub _ _ e
  · by_cases q : x = p
    · subst q
      exact a.old.free hp
    · rw [upd_ne q] at e
      exact a.dis _ _ e
def tLit (K : PySem.W.Frag) (d : Dat) : TE := fun _ H Q => ∀ v N H', New H N H' → Rep K N v d → Q v H'
def tLits (K : PySem.W.Frag) (ds : List Dat) : TA := fun _ H Q => ∀ vs N H', New H N H' → RepAll K N vs ds → Q vs H'
section
variable {X : Cx}
theorem pe_const {e : Expr} {d : Dat} (h : constD e = some d) : PE X e (tLit X.K d) := by
  have one : ∀ {e : Expr} {v : V}, PE X e (tC v) → (∀ N, Rep X.K N v d) → PE X e (tLit X.K d) := by
    intro e v he hr
    refine ⟨fun pins s σ H Q I k => he.run pins s σ H Q I ?_⟩
    exact k v _ H (.nil H) (hr _)
  unfold constD at h
  split at h <;> first | (cases h; done) | (cases h; first | exact one pe_non fun _ => rfl | exact one pe_bl fun _ => rfl | exact one pe_int fun _ => rfl | exact one pe_str fun _ => rfl)
theorem lit_star {n : Nat} {e : Expr} {d : Dat} (h : litD n e = some d) (es : List Expr) : starEach (e :: es) X.env = (false, eval e X.env) :: starEach es X.env := by
  cases n with
  | zero => cases h
  | succ n => cases e <;> first | rfl | (unfold litD constD at h; cases h)
theorem pa_lits {n : Nat} (ih : ∀ e d, litD n e = some d → PE X e (tLit X.K d)) : ∀ (es : List Expr) (ds : List Dat), es.mapM (litD n) = some ds → PA X es (tLits X.K ds)
  | [], ds, h => by
    cases (show some ([] : List Dat) = some ds from by simpa using h)
    refine ⟨fun pos pins s σ H Q I k => pa_nil.run pos pins s σ H Q I ?_⟩
    exact k [] _ H (.nil H) rfl
  | e :: es, ds, h => by
    rw [List.mapM_cons] at h
    cases h1 : litD n e with
    | none => rw [h1] at h; cases h
    | some d =>
      cases h2 : es.mapM (litD n) with
      | none => rw [h1, h2] at h; cases h
      | some dr =>
        rw [h1, h2] at h
        cases (show some (d :: dr) = some ds from h)
        have pe := ih e d h1
        have pr := pa_lits ih es dr h2
        refine ⟨fun pos pins s σ H Q I k => (pa_cons pe pr (lit_star h1 es)).run pos pins s σ H Q I ?_⟩
        intro v N H1 n1 r1 vs N2 H2 n2 r2
        exact k _ _ _ (n1.trans n2) ⟨v, vs, rfl, Rep.mono uni_l _ r1, RepAll.mono (n1.right n2) _ r2⟩
theorem mapM_len {α β : Type} {f : α → Option β} : ∀ {xs : List α} {ys : List β}, xs.mapM f = some ys → ys.length = xs.length
  | [], ys, h => by cases (show some ([] : List β) = some ys from by simpa using h); rfl
  | x :: xs, ys, h => by
    rw [List.mapM_cons] at h
    cases h1 : f x with
    | none => rw [h1] at h; cases h
    | some d =>
      cases h2 : xs.mapM f with
      | none => rw [h1, h2] at h; cases h
      | some dr =>
        rw [h1, h2] at h
        cases (show some (d :: dr) = some ys from h)
        simp [mapM_len h2]
/-- all displays are of a size that Python lets -/
def sizes : Nat → Dat → Bool
  | 0, _ => false
  | n + 1, .lst ds => decide (ds.length ≤ 1000) && ds.all (sizes n)
  | n + 1, .tup ds => decide (ds.length ≤ 1000) && ds.all (sizes n)
  | n + 1, .dct _ ds => ds.all (sizes n)
  | _, _ => true
theorem lit_lst {es : List Expr} {ds : List Dat} {pos : Pos} (h : PA X es (tLits X.K ds)) (hz : ds.length ≤ 1000) : PE X (.List es pos) (tLit X.K (.lst ds)) := by
  refine ⟨fun pins s σ H Q I k => (pe_lst h).run pins s σ H Q I ?_⟩
  intro vs N H1 n1 r1
  have l := r1.length
  refine ⟨Nat.le_trans (by omega : vs.length ≤ 1000) (by decide), fun p hp => ?_⟩
  obtain ⟨n2, sN⟩ := n1.put (o := .lst vs) hp
  exact k _ _ _ n2 ⟨p, vs, rfl, upd_same, RepAll.mono sN _ r1⟩
theorem lit_tup {es : List Expr} {ds : List Dat} {x : Nat} {pos : Pos} (h : PA X es (tLits X.K ds)) (hz : ds.length ≤ 1000) : PE X (.Tuple es x pos) (tLit X.K (.tup ds)) := by
  refine ⟨fun pins s σ H Q I k => (pe_tup h).run pins s σ H Q I ?_⟩
  intro vs N H1 n1 r1
  have l := r1.length
  refine ⟨Nat.le_trans (by omega : vs.length ≤ 1000) (by decide), fun p hp => ?_⟩
  obtain ⟨n2, sN⟩ := n1.put (o := .tup vs) hp
  exact k _ _ _ n2 ⟨p, vs, rfl, upd_same, RepAll.mono sN _ r1⟩
theorem lit_dct0 {pos : Pos} : PE X (.Dict [] [] pos) (tLit X.K (.dct [] [])) := by
  refine ⟨fun pins s σ H Q I k => pe_dnewK.run pins s σ H Q I ?_⟩
  intro p hp
  obtain ⟨n2, _⟩ := (New.nil H).put (o := .dK []) hp
  exact k _ _ _ n2 ⟨p, [], rfl, upd_same, rfl, rfl⟩
theorem key_pe {k : Expr} {kk : Key} (h : keyOf k = some kk) : PE X k (tC (kV kk)) := by
  unfold keyOf at h
  split at h
  · cases h; exact pe_int
  · cases h; exact pe_str
  · cases h
theorem lit_dct1 {k e : Expr} {kk : Key} {d : Dat} {pos : Pos} (hk : keyOf k = some kk) (he : PE X e (tLit X.K d)) : PE X (.Dict [some k] [e] pos) (tLit X.K (.dct [kk] [d])) := by
  have base : PE X (.Dict [some k] [e] pos) (tDisp [(tC (kV kk), tLit X.K d)]) :=
    pe_disp (pps_cons (key_pe hk) he pps_nil) (by rfl) (by rfl) (fun z => by cases z) (show 1 ≤ 15 by decide)
  refine ⟨fun pins s σ H Q I q => base.run pins s σ H Q I ?_⟩
  intro p hp v N H1 n1 r1
  have hp1 : H1 p = some (.dK []) := n1.old _ _ upd_same
  have pN : N p = none := by
    cases z : N p with
    | none => rfl
    | some o => have := n1.dis p o z; rw [upd_same] at this; cases this
  refine ⟨hp1, [(kk, v)], rfl, show 1 ≤ 15 by decide, ?_⟩
  have e : mergeK [] [(kk, v)] = [(kk, v)] := rfl
  rw [e]
  refine q _ (upd N p (.dK [(kk, v)])) _ ⟨fun x o ex => ?_, fun x o ex => ?_, fun x o ex => ?_⟩ ⟨p, [(kk, v)], rfl, upd_same, rfl, v, [], rfl, Rep.mono (same_upd pN) _ r1, rfl⟩
  · have nx : x ≠ p := ne_of_none ex hp
    rw [upd_ne nx]
    exact n1.old _ _ (by rw [upd_ne nx]; exact ex)
  · by_cases qx : x = p
    · subst qx
      rw [upd_same] at ex ⊢
      exact ex
    · rw [upd_ne qx] at ex ⊢
      exact n1.sub _ _ ex
  · by_cases qx : x = p
    · subst qx; exact hp
    · rw [upd_ne qx] at ex
      have := n1.dis _ _ ex
      rw [upd_ne qx] at this
      exact this
/-- any written datum -/
theorem pe_lit_n : ∀ (n : Nat) (e : Expr) (d : Dat), litD n e = some d → sizes n d = true → PE X e (tLit X.K d) := by
  intro n
  induction n with
  | zero => intro e d h; cases h
  | succ n ih =>
    intro e d h hz
    have many : ∀ (es : List Expr) (ds : List Dat), es.mapM (litD n) = some ds → ds.all (sizes n) = true → PA X es (tLits X.K ds) := by
      intro es
      induction es with
      | nil =>
        intro ds h1 _
        cases (show some ([] : List Dat) = some ds from by simpa using h1)
        exact ⟨fun pos pins s σ H Q I k => pa_nil.run pos pins s σ H Q I (k [] _ H (.nil H) rfl)⟩
      | cons e es ihe =>
        intro ds h1 hs
        rw [List.mapM_cons] at h1
        cases h2 : litD n e with
        | none => rw [h2] at h1; cases h1
        | some d1 =>
          cases h3 : es.mapM (litD n) with
          | none => rw [h2, h3] at h1; cases h1
          | some dr =>
            rw [h2, h3] at h1
            cases (show some (d1 :: dr) = some ds from h1)
            rw [List.all_cons, Bool.and_eq_true] at hs
            refine ⟨fun pos pins s σ H Q I k => (pa_cons (ih e d1 h2 hs.1) (ihe dr h3 hs.2) (lit_star h2 es)).run pos pins s σ H Q I ?_⟩
            intro v N H1 n1 r1 vs N2 H2 n2 r2
            exact k _ _ _ (n1.trans n2) ⟨v, vs, rfl, Rep.mono uni_l _ r1, RepAll.mono (n1.right n2) _ r2⟩
    unfold litD at h
    split at h
    · rename_i es pos
      cases h1 : es.mapM (litD n) with
      | none => rw [h1] at h; cases h
      | some ds =>
        rw [h1] at h
        cases h
        have hz' : (decide (ds.length ≤ 1000) && ds.all (sizes n)) = true := hz
        rw [Bool.and_eq_true, decide_eq_true_eq] at hz'
        exact lit_lst (many es ds h1 hz'.2) hz'.1
    · rename_i es x pos
      cases h1 : es.mapM (litD n) with
      | none => rw [h1] at h; cases h
      | some ds =>
        rw [h1] at h
        cases h
        have hz' : (decide (ds.length ≤ 1000) && ds.all (sizes n)) = true := hz
        rw [Bool.and_eq_true, decide_eq_true_eq] at hz'
        exact lit_tup (many es ds h1 hz'.2) hz'.1
    · cases h
      exact lit_dct0
    · rename_i k v pos
      cases h1 : keyOf k with
      | none => rw [h1] at h; cases h
      | some kk =>
        cases h2 : litD n v with
        | none => rw [h1, h2] at h; cases h
        | some d1 =>
          rw [h1, h2] at h
          cases h
          have hz' : [d1].all (sizes n) = true := hz
          rw [List.all_cons, Bool.and_eq_true] at hz'
          exact lit_dct1 h1 (ih v d1 h2 hz'.1)
    · rename_i a pos
      cases h1 : litD n a with
      | none => rw [h1] at h; cases h
      | some d1 =>
        rw [h1] at h
        cases d1 with
        | int i =>
          cases h
          have pa := ih a _ h1 (by cases n with | zero => cases h1 | succ n => rfl)
          refine ⟨fun pins s σ H Q I k => (pe_un un_neg pa).run pins s σ H Q I ?_⟩
          intro v N H1 n1 r1
          cases (show v = V.int i from r1)
          exact ⟨i, rfl, k _ _ _ n1 rfl⟩
        | _ => cases h
    · rename_i a b pos
      cases h1 : litD n a with
      | none => rw [h1] at h; cases h
      | some d1 =>
        cases h2 : litD n b with
        | none => rw [h1, h2] at h; cases d1 <;> cases h
        | some d2 =>
          rw [h1, h2] at h
          cases d1 with
          | int i =>
            cases d2 with
            | int j =>
              simp only at h
              split at h
              · rename_i c
                cases h
                have pa := ih a _ h1 (by cases n with | zero => cases h1 | succ n => rfl)
                have pb := ih b _ h2 (by cases n with | zero => cases h2 | succ n => rfl)
                refine ⟨fun pins s σ H Q I k => (pe_op op_pow pa pb).run pins s σ H Q I ?_⟩
                intro v N H1 n1 r1 u N2 H2 n2 r2
                cases (show v = V.int i from r1)
                cases (show u = V.int j from r2)
                exact ⟨i, j, rfl, rfl, c, k _ _ _ (n1.trans n2) rfl⟩
              · cases h
            | _ => cases h
          | _ => cases h
    · exact pe_const h
/-- some written items, then others -/
def tMix (K : PySem.W.Frag) (ds : List Dat) (t : TA) : TA := fun σ H Q => ∀ vs N H', New H N H' → RepAll K N vs ds → t σ H' fun us H2 => Q (vs ++ us) H2
theorem pa_mix0 (n : Nat) : ∀ (k : Nat) (l : List Expr) (ds : List Dat) (t : TA), (l.take k).mapM (litD n) = some ds → ds.all (sizes n) = true → PA X (l.drop k) t → PA X l (tMix X.K ds t) := by
  intro k
  induction k with
  | zero =>
    intro l ds t h _ hr
    cases (show some ([] : List Dat) = some ds from by simpa using h)
    refine ⟨fun pos pins s σ H Q I q => hr.run pos pins s σ H Q I ?_⟩
    exact q [] _ H (.nil H) rfl
  | succ k ih =>
    intro l ds t h hz hr
    cases l with
    | nil =>
      cases (show some ([] : List Dat) = some ds from by simpa using h)
      refine ⟨fun pos pins s σ H Q I q => hr.run pos pins s σ H Q I ?_⟩
      exact q [] _ H (.nil H) rfl
    | cons e es =>
      rw [List.take_succ_cons, List.mapM_cons] at h
      cases h1 : litD n e with
      | none => rw [h1] at h; cases h
      | some d =>
        cases h2 : (es.take k).mapM (litD n) with
        | none => rw [h1, h2] at h; cases h
        | some dr =>
          rw [h1, h2] at h
          cases (show some (d :: dr) = some ds from h)
          rw [List.all_cons, Bool.and_eq_true] at hz
          have pr := ih es dr t h2 hz.2 hr
          refine ⟨fun pos pins s σ H Q I q => (pa_cons (pe_lit_n n e d h1 hz.1) pr (lit_star h1 es)).run pos pins s σ H Q I ?_⟩
          intro v N H1 n1 r1 vs N2 H2 n2 r2
          exact q (v :: vs) _ _ (n1.trans n2) ⟨v, vs, rfl, Rep.mono uni_l _ r1, RepAll.mono (n1.right n2) _ r2⟩
theorem pa_mix {K : PySem.W.Frag} (n k : Nat) {l : List Expr} {ds : List Dat} {t : TA} (h : (l.take k).mapM (litD n) = some ds) (hz : ds.all (sizes n) = true) (hr : PA X (l.drop k) t) (hK : X.K = K := by rfl) :
    PA X l (tMix K ds t) := hK ▸ pa_mix0 n k l ds t h hz hr
/-- with the written part named: h by rfl or decide +kernel -/
theorem pe_lit {K : PySem.W.Frag} {e : Expr} {d : Dat} (n : Nat) (h : litD n e = some d) (hz : sizes n d = true) (hK : X.K = K := by rfl) : PE X e (tLit K d) := hK ▸ pe_lit_n n e d h hz
end
end Lt

set_option Elab.async false
set_option linter.all false
set_option maxRecDepth 100000
set_option maxHeartbeats 4000000
/-! A frozen part beside a bag. -/
namespace Fz
open PySem PySem.Spec PyProof.Rows L2 G D L S C Sx Kx Lt
/-- F is frozen in H; the bag at b lies outside of it -/
structure Fr (F H : Hp) (b : Addr) : Prop where
  same : Same F H
  out : F b = none
  cell : ∃ l o, BagL H b l ∧ F l = Option.some o
theorem Fr.bag {F H : Hp} {b : Addr} (f : Fr F H b) : Bag H b := let ⟨l, _, q, _⟩ := f.cell; ⟨l, q⟩
theorem Fr.cell' {F H F' H' : Hp} {b : Addr} (f : Fr F H b) (s : Same H H') (t : Same F F') : ∃ l o, BagL H' b l ∧ F' l = Option.some o :=
  let ⟨l, o, q, r⟩ := f.cell; ⟨l, o, q.keep s, t _ _ r⟩
theorem Fr.grow {F H H' : Hp} {b : Addr} (f : Fr F H b) (s : Same H H') : Fr F H' b := ⟨f.same.trans s, f.out, f.cell' s (.refl _)⟩
theorem Fr.took {F H H' : Hp} {b : Addr} (f : Fr F H b) (s : SameBut b H H') (g : BagTo H H' b) : Fr F H' b := by
  obtain ⟨l, o, q, r⟩ := f.cell
  obtain ⟨l', q1, q2⟩ := g
  rw [← q.one q1] at q2
  exact ⟨s.from f.same f.out, f.out, l, o, q2, r⟩
theorem Fr.some {F H : Hp} {b : Addr} (f : Fr F H b) : ∃ o, H b = Option.some o := by
  obtain ⟨l, c0, c1, c2, ms, h, _⟩ := f.bag
  exact ⟨_, h⟩
theorem Fr.lit {F H N H' : Hp} {b : Addr} (f : Fr F H b) (n : New H N H') : Fr (uni F N) H' b ∧ Same F (uni F N) ∧ Same N (uni F N) := by
  refine ⟨⟨uni_sub (f.same.trans n.old) n.sub, ?_, f.cell' n.old uni_l⟩, uni_l, uni_r fun x o e => f.same.free (n.dis x o e)⟩
  unfold uni
  rw [f.out]
  cases q : N b with
  | none => rfl
  | some u =>
    obtain ⟨o, e⟩ := f.some
    rw [n.dis b u q] at e
    cases e
theorem Fr.put {F H : Hp} {b p : Addr} {o : HO} (f : Fr F H b) (hp : H p = none) : Fr (upd F p o) (upd H p o) b ∧ Same F (upd F p o) := by
  have pF : F p = none := f.same.free hp
  have bp : b ≠ p := by
    obtain ⟨u, e⟩ := f.some
    exact ne_of_none e hp
  refine ⟨⟨fun x u e => ?_, by rw [upd_ne bp]; exact f.out, f.cell' (same_upd hp) (same_upd pF)⟩, same_upd pF⟩
  by_cases q : x = p
  · subst q
    rw [upd_same] at e ⊢
    exact e
  · rw [upd_ne q] at e ⊢
    exact f.same _ _ e
/-- the same, the frozen part without its name -/
theorem Fr.put' {F H : Hp} {b p : Addr} {o : HO} (f : Fr F H b) (hp : H p = none) : ∃ F', Fr F' (upd H p o) b ∧ Same F F' ∧ F' p = Option.some o :=
  ⟨_, (f.put hp).1, (f.put hp).2, upd_same⟩
theorem Fr.lit' {F H N H' : Hp} {b : Addr} (f : Fr F H b) (n : New H N H') : ∃ F', Fr F' H' b ∧ Same F F' ∧ Same N F' :=
  ⟨_, (f.lit n).1, (f.lit n).2.1, (f.lit n).2.2⟩
theorem Fr.ne {F H : Hp} {b p : Addr} {o : HO} (f : Fr F H b) (h : F p = Option.some o) : p ≠ b := fun z => by
  rw [z, f.out] at h
  cases h
theorem Fr.rep {K : PySem.W.Frag} {F H : Hp} {b : Addr} {v : V} {d : Dat} (f : Fr F H b) (h : Rep K F v d) : Rep K H v d := Rep.mono f.same d h
/-- from F and H on: the frozen part has grown by new things alone, all but the bag stands -/
structure Go (b : Addr) (F H F' H' : Hp) : Prop where
  fr : Fr F' H' b
  up : Same F F'
  but : SameBut b H H'
  new : ∀ x o, F' x = Option.some o → F x = Option.some o ∨ H x = none
section
variable {b p : Addr} {F H F1 H1 F2 H2 N : Hp} {o : HO}
theorem Go.refl (f : Fr F H b) : Go b F H F H := ⟨f, .refl F, .refl b H, fun _ _ e => .inl e⟩
theorem Go.trans (a : Go b F H F1 H1) (c : Go b F1 H1 F2 H2) : Go b F H F2 H2 := by
  refine ⟨c.fr, a.up.trans c.up, a.but.trans c.but, fun x u e => ?_⟩
  rcases c.new x u e with q | q
  · exact a.new x u q
  · refine .inr ?_
    by_cases hx : x = b
    · obtain ⟨o, z⟩ := a.fr.some
      rw [hx, z] at q
      cases q
    · cases hH : H x with
      | none => rfl
      | some u' =>
        rw [a.but x u' hx hH] at q
        cases q
theorem Go.bag (a : Go b F H F1 H1) : Bag H1 b := a.fr.bag
theorem Go.same (a : Go b F H F1 H1) : Same F1 H1 := a.fr.same
theorem Go.out (a : Go b F H F1 H1) : F1 b = none := a.fr.out
theorem Go.ne (a : Go b F H F1 H1) (h : F1 p = Option.some o) : p ≠ b := a.fr.ne h
theorem Go.grow (a : Go b F H F1 H1) (s : Same H1 H2) : Go b F H F1 H2 := ⟨a.fr.grow s, a.up, a.but.same s, a.new⟩
theorem Go.took (a : Go b F H F1 H1) (s : SameBut b H1 H2) (g : BagTo H1 H2 b) : Go b F H F1 H2 := ⟨a.fr.took s g, a.up, a.but.trans s, a.new⟩
theorem Go.lit' (a : Go b F H F1 H1) (n : New H1 N H2) : ∃ F', Go b F H F' H2 ∧ Same F1 F' ∧ Same N F' := by
  obtain ⟨f, s, t⟩ := a.fr.lit n
  refine ⟨_, a.trans ⟨f, s, Same.but n.old, fun x u e => ?_⟩, s, t⟩
  unfold uni at e
  cases q : F1 x with
  | some w => rw [q] at e; exact .inl e
  | none => rw [q] at e; exact .inr (n.dis x u e)
theorem Go.put' (a : Go b F H F1 H1) (hp : H1 p = none) : ∃ F', Go b F H F' (upd H1 p o) ∧ Same F1 F' ∧ F' p = Option.some o := by
  obtain ⟨f, s⟩ := a.fr.put (o := o) hp
  refine ⟨_, a.trans ⟨f, s, Same.but (same_upd hp), fun x u e => ?_⟩, s, upd_same⟩
  by_cases q : x = p
  · rw [q]; exact .inr hp
  · rw [upd_ne q] at e; exact .inl e
end
/-- something is drawn: data that are good in the way of G -/
def spDraw (K : PySem.W.Frag) (Gd : Dat → Prop) : Sp := fun vs H Q _ => ∃ (b : Addr) (F : Hp), vs = [.ref b] ∧ Fr F H b ∧
  ∀ v d F' H', Go b F H F' H' → Rep K F' v d → Gd d → Q v H'
/-- something is drawn off a datum -/
def spDraw1 (K : PySem.W.Frag) (Pd Gd : Dat → Prop) : Sp := fun vs H Q _ => ∃ (b : Addr) (F : Hp) (u : V) (e : Dat), vs = [.ref b, u] ∧ Fr F H b ∧ Rep K F u e ∧ Pd e ∧
  ∀ v d F' H', Go b F H F' H' → Rep K F' v d → Gd d → Q v H'
section
open C
variable {b : Addr} {F H1 : Hp} {K : PySem.W.Frag}
/-- a comprehension over a range, each turn of which draws a datum -/
theorem lc_draw {lo : Int} {n : Nat} {g : TG} {te : TE} {vs : List Nat} {σ : L2.St} {D : Addr} {Qd : Hp → Prop} (Gd : Dat → Prop) (hz : n < sizeLine) (hD : H1 D = none) (f : Fr F H1 b)
    (turn : ∀ (i : Nat) (F' H : Hp) (Kt : V → Hp → Prop), Fr F' H b →
      (∀ v d F2 H2, Go b F' H F2 H2 → Rep K F2 v d → Gd d → Kt v H2) →
      g (.int (lo + (i : Nat))) (wipe σ vs) H fun σ2 H2 => wipe σ2 vs = wipe σ vs ∧ te σ2 H2 Kt)
    (done : ∀ F' H xs ds, Go b F H1 F' H → H D = some (.lst xs) → F' D = none → D ≠ b → RepAll K F' xs ds → ds.length = n → (∀ d ∈ ds, Gd d) → Qd H) :
    ∃ W : Nat → Nat → Hp → Prop, (∃ m, W 0 m (upd H1 D (.lst []))) ∧ ∀ i m H, W i m H →
      ((Itr lo n).stop i H ∧ Qd H) ∨ ((Itr lo n).go i H ∧ ∃ Nx : Hp → Prop, (∀ H', Nx H' → ∃ m', m' < m ∧ W (i + 1) m' H') ∧ ∀ x H', (Itr lo n).yld i H x H' →
        g x (wipe σ vs) H' fun σ2 H2 => wipe σ2 vs = wipe σ vs ∧ tYes σ2 H2 fun b H3 =>
          if b = true then te σ2 H3 fun y H4 => ∃ acc, H4 D = some (.lst acc) ∧ acc.length < sizeLine ∧ Nx (upd H4 D (.lst (acc ++ [y]))) else Nx H3) := by
  have Db : D ≠ b := fun z => by
    obtain ⟨o, e⟩ := f.some
    rw [z, e] at hD
    cases hD
  refine lc_it walk_range (fun i H => ∃ F' xs ds, Go b F H1 F' H ∧ H D = some (.lst xs) ∧ F' D = none ∧ RepAll K F' xs ds ∧ ds.length = i ∧ ∀ d ∈ ds, Gd d)
    ⟨F, [], [], (Go.refl f).grow (same_upd hD), upd_same, f.same.free hD, rfl, rfl, fun _ h => nomatch h⟩ (fun _ _ _ _ => trivial) ?_ ?_
  · rintro i x H H' hi ⟨F', xs, ds, go, hd, fd, hr, hl, hg⟩ ⟨rfl, rfl⟩
    refine turn i F' H' _ go.fr fun v d F2 H2 g2 r2 gd => ?_
    have hd2 := g2.but _ _ Db hd
    have fd2 : F2 D = none := by
      cases q : F2 D with
      | none => rfl
      | some o =>
        rcases g2.new _ _ q with z | z
        · rw [fd] at z; cases z
        · rw [hd] at z; cases z
    have g3 := go.trans g2
    have lx := hr.length
    refine ⟨xs, hd2, by rw [lx, hl]; omega, F2, xs ++ [v], ds ++ [d], ⟨⟨fun y o e => ?_, g3.out, ?_⟩, g3.up, fun y o ny e => ?_, g3.new⟩, upd_same, fd2, RepAll.append (RepAll.mono g2.up _ hr) (.one r2), ?_, ?_⟩
    · have : y ≠ D := fun z => by rw [z, fd2] at e; cases e
      rw [upd_ne this]
      exact g3.same _ _ e
    · obtain ⟨l, o, ⟨c0, c1, c2, ms, q1, q2, q3⟩, hl2⟩ := g3.fr.cell
      have lD : l ≠ D := fun z => by
        rw [z, fd2] at hl2
        cases hl2
      refine ⟨l, o, ⟨c0, c1, c2, ms, ?_, ?_, q3⟩, hl2⟩
      · rw [upd_ne Db.symm]; exact q1
      · rw [upd_ne lD]; exact q2
    · have : y ≠ D := ne_of_none e hD
      rw [upd_ne this]
      exact g3.but _ _ ny e
    · rw [List.length_append, hl]; rfl
    · intro e he
      rcases List.mem_append.mp he with he | he
      · exact hg e he
      · rw [List.mem_singleton] at he
        subst he
        exact gd
  · rintro H ⟨F', xs, ds, go, hd, fd, hr, hl, hg⟩
    exact done F' H xs ds go hd fd Db hr hl hg
end
end Fz

set_option Elab.async false
set_option linter.all false
set_option maxRecDepth 100000
set_option maxHeartbeats 8000000
namespace K
open PySem PySem.Spec PyProof.Rows L2 G D L S C Sx Kx Ex Lt
open Fz hiding Fr
open C8 (pss_cut tCut)
open PySem.W (dataLt alike)
/-- fit to be shown, as a reckoning -/
def fineB (k n : Nat) (d : Dat) : Bool := d.pure && d.py.showable && decide (d.py.depth ≤ k) && decide (d.py.shown.length ≤ n)
theorem fine_of {k n : Nat} {d : Dat} (h : fineB k n d = true) : Fine k n d := by
  unfold fineB at h
  simp only [Bool.and_eq_true, decide_eq_true_eq] at h
  exact ⟨h.1.1.1, h.1.1.2, h.1.2, h.2⟩
/-- how many items stand at the top -/
def top1 : Dat → Nat
  | .lst ds => ds.length
  | .tup ds => ds.length
  | _ => 0
/-- if it is a tuple of six, its items are small -/
def not6 : Dat → Bool
  | .tup ds => ds.length != 6 || ds.all (fineB 8 600)
  | _ => true
def elB : Dat → Bool
  | .lst ds => ds.all fun e => fineB 8 4000 e && not6 e
  | _ => true
structure Gd (d : Dat) : Prop where
  fi : Fine 8 4000 d
  wd : Wd d
  tp : top1 d ≤ 900
  nx : not6 d = true
  el : ∀ ds, d = .lst ds → ∀ e ∈ ds, Fine 8 4000 e ∧ not6 e = true
abbrev gdB (d : Dat) : Bool := fineB 8 4000 d && wd d && decide (top1 d ≤ 900) && not6 d && elB d
theorem el_of {d : Dat} (h : elB d = true) : ∀ ds, d = .lst ds → ∀ e ∈ ds, Fine 8 4000 e ∧ not6 e = true := by
  rintro ds rfl e he
  have := List.all_eq_true.mp h e he
  rw [Bool.and_eq_true] at this
  exact ⟨fine_of this.1, this.2⟩
theorem not6_of {d : Dat} (h : top1 d ≤ 1) : not6 d = true := by
  cases d with
  | tup ds =>
    show (ds.length != 6 || ds.all (fineB 8 600)) = true
    have h : ds.length ≤ 1 := h
    rw [show (ds.length != 6) = true from by rw [bne_iff_ne]; omega]
    rfl
  | _ => rfl
theorem gd_of {d : Dat} (h : gdB d = true) : Gd d := by
  simp only [gdB, Bool.and_eq_true, decide_eq_true_eq] at h
  exact ⟨fine_of h.1.1.1.1, h.1.1.1.2, h.1.1.2, h.1.2, el_of h.2⟩
theorem rep_mem {K : PySem.W.Frag} {H : Hp} {ds : List Dat} {vs : List V} {v : V} (r : RepAll K H vs ds) (h : v ∈ vs) : ∃ d ∈ ds, Rep K H v d := by
  obtain ⟨i, hi, e⟩ := List.mem_iff_getElem.mp h
  obtain ⟨d, hd, q⟩ := r.get (show vs[i]? = some v by rw [List.getElem?_eq_getElem hi, e])
  exact ⟨d, List.mem_of_getElem? hd, q⟩
/-- a fresh bag -/
def spBag (K : PySem.W.Frag) : Sp := fun vs H Q _ => ∃ (a : Addr) (ns : List Int), vs = [.ref a] ∧ SqL K H a (ns.map V.int) ∧ ns.length ≤ 63 ∧
  ∀ b l H', H b = none → H l = none → Same H H' → BagL H' b l → Q (.ref b) H'
/-- equal data, written alike -/
def spAlike (K : PySem.W.Frag) : Sp := fun vs H Q _ => ∃ (v u : V) (d : Dat), vs = [v, u] ∧ Rep K H v d ∧ Rep K H u d ∧ d.py.canLay0 = true ∧ Fine 40 sizeLine d ∧ Q (.bl true) H
section
variable {K : PySem.W.Frag} {H : Hp}
mutual
theorem rep_dp : ∀ (d : Dat) {v : V}, Rep K H v d → d.pure = true → d.py.canLay0 = true → Dp K H v d.py
  | .non, _, h, _, _ => by cases (show _ = V.non from h); exact .non
  | .bl b, _, h, _, _ => by cases (show _ = V.bl b from h); exact .bl b
  | .int i, _, h, _, _ => by cases (show _ = V.int i from h); exact .int i
  | .str x, _, h, _, _ => by cases (show _ = V.str x from h); exact .str x
  | .lst ds, _, ⟨a, xs, e, ha, hs⟩, p, c => by
    subst e
    exact .lst (SqL.of ha) (rep_dpAll ds hs p (by simpa [Dat.py, PyData.canLay0] using c))
  | .tup ds, _, ⟨a, xs, e, ha, hs⟩, p, c => by
    subst e
    exact .tup (SqT.of ha) (rep_dpAll ds hs p (by simpa [Dat.py, PyData.canLay0] using c))
  | .dct ks ds, _, _, _, c => by simp [Dat.py, PyData.canLay0] at c
  | .obj _ _, _, _, p, _ => by cases p
theorem rep_dpAll : ∀ (ds : List Dat) {vs : List V}, RepAll K H vs ds → pureAll ds = true → PyData.canLayAll0 (pyAll ds) = true → DpAll K H vs (pyAll ds)
  | [], _, h, _, _ => by cases (show _ = [] from h); exact .nil
  | d :: ds, _, ⟨v, t, e, h1, h2⟩, p, c => by
    subst e
    have p' : (d.pure && pureAll ds) = true := p
    rw [Bool.and_eq_true] at p'
    have c' : d.py.canLay0 = true ∧ PyData.canLayAll0 (pyAll ds) = true := by
      simpa [pyAll, PyData.canLayAll0] using c
    exact .cons (rep_dp d h1 p'.1 c'.1) (rep_dpAll ds h2 p'.2 c'.2)
end
end
section
variable {P : Program} {w : World} {K : PySem.W.Frag} {mg : Str → Option Value} {base : Heap}
abbrev s_law_bag : Stmt := top 12
theorem sc_law_bag : FnScope ["script", "cell"] ["script"] (defScope s_law_bag) := ⟨rfl, rfl, rfl, by decide +kernel, rfl, by decide +kernel, by decide +kernel⟩
theorem ok_bag {f : Addr} {fd : FuncData} (F : Fun K "_law_bag" "_law_bag" s_law_bag f fd) (T : Bl mg) : Fn P w K mg base CX0 2 f fd ["script"] (spBag K) := by
  refine fn_calm F sc_law_bag (fun vs H Q E h => ?_) (fun cdv A outer s H vs Q E hc hr h => ?_)
  · obtain ⟨a, ns, rfl, _⟩ := h
    rfl
  · obtain ⟨a, ns, rfl, ha, hl, k⟩ := h
    refine ⟨_, (pss_one (ps_ret (pe_lst (pa_cons pe_int (pa_cons pe_int (pa_cons pe_int (pa_cons (pe_lc (own := [("cell", 1)]) (g := gName 1) (tt := tYes) rfl sc_law_bag.nd (pi_list (pe_slice sl_list (pv 0) po_none (po_some pe_int))) (blkOk_by (N := ["script", "cell"]) (sc := defScope s_law_bag) (by decide +kernel)) (fun _ _ _ _ _ => (pg_name (i := 1) sc_law_bag.nd rfl (Or.inl rfl))) (fun _ _ _ _ _ => pts_nil) (fun _ _ _ _ _ => (pe_callB call_abs (by rfl) T.absN (by decide +kernel) (pa_cons (pv 1) pa_nil)))) pa_nil))))))), ?_⟩
    refine ⟨_, rfl, _, rfl, a, _, rfl, ha, fun p hp => ?_⟩
    have ec : cutV (ns.map V.int) none (some 63) = (ns.take 63).map V.int := by
      unfold cutV
      rw [List.length_map]
      have e1 : HT.sIx ns.length 0 none = 0 := rfl
      have e2 : HT.sIx ns.length ns.length (some 63) = min 63 ns.length := by simp [HT.sIx]
      rw [e1, e2, List.drop_zero, Nat.sub_zero, ← List.map_take, Nat.min_eq_right hl, List.take_length]
      rw [List.take_of_length_le hl]
    have s1 := same_upd (o := .lst (cutV (ns.map V.int) none (some 63))) hp
    rw [ec] at s1 ⊢
    refine ⟨p, rfl, ⟨_, SqL.of upd_same⟩, fun D hD => ?_⟩
    have l1 : (ns.take 63).length ≤ 63 := List.length_take_le _ _
    have ab : ∀ i : Int, 0 ≤ (if i < 0 then -i else i) := fun i => by split <;> omega
    refine lc_map (walk_list (xs := (ns.take 63).map V.int)) (ns.take 63) (fun i => .int (if i < 0 then -i else i)) (by rw [List.length_map]) (by rw [List.length_map]; exact Nat.lt_of_le_of_lt l1 (by decide)) hD
      (fun H' s => SqL.of (s _ _ upd_same)) ?_ ?_
    · rintro i n y H1 H2 Kt hn hs ⟨rfl, hy⟩ kt
      have : y = V.int n := by
        rw [List.getElem?_map, hn] at hy
        exact (Option.some.inj hy).symm
      subst this
      exact ⟨rfl, _, rfl, n, rfl, kt _ (.refl _)⟩
    · intro H1 hs hd
      refine ⟨by show 4 ≤ sizeLine; decide, fun b hb => ?_⟩
      have s2 := s1.trans hs
      have hD2 : H D = none := s1.free hD
      refine k b D _ (s2.free hb) hD2 (s2.trans (same_upd hb)) ⟨0, 1234567891, 0, (ns.take 63).map (fun i => if i < 0 then -i else i), upd_same, ?_, by decide, by decide, by decide, by decide, ?_, ?_⟩
      · rw [upd_ne (ne_of_none hd hb), hd, List.map_map]
        rfl
      · rw [List.length_map]
        exact l1
      · intro m hm
        obtain ⟨i, _, rfl⟩ := List.mem_map.mp hm
        exact ab i
abbrev s_law_one : Stmt := top 14
theorem sc_law_one : FnScope ["bag", "things"] ["bag", "things"] (defScope s_law_one) := ⟨rfl, rfl, rfl, by decide +kernel, rfl, by decide +kernel, by decide +kernel⟩
theorem ok_one {f : Addr} {fd : FuncData} (F : Fun K "_law_one" "_law_one" s_law_one f fd) (T : Bl mg)
    (D_law_take : Def P w K mg base 2 "_law_take" ["bag", "many"] spTake) : Fn P w K mg base CX0 3 f fd ["bag", "things"] spOne := by
  refine fn_calm F sc_law_one (fun vs H Q E h => ?_) (fun cdv A outer s H vs Q E hc hr h => ?_)
  · obtain ⟨b, t, xs, rfl, _⟩ := h
    rfl
  · obtain ⟨b, t, xs, rfl, hb, ht, ntb, ne, hl, k⟩ := h
    refine ⟨_, (pss_one (ps_ret (pe_ix ix_list (pv 1) (pe_def D_law_take hc (hr.mono (by decide)) (pa_cons (pv 0) (pa_cons (pe_callB call_len_seq (by rfl) T.lenN (by decide +kernel) (pa_cons (pv 1) pa_nil)) pa_nil))) (fun _ _ => rfl)))), ?_⟩
    have l1 : 0 < xs.length := List.length_pos_iff.mpr ne
    refine ⟨_, rfl, _, rfl, _, rfl, t, _, rfl, .inl (SqL.of ht), b, _, rfl, hb, by omega, by omega, fun i H1 h0 h1 sb hb1 => ?_⟩
    have hi : i.toNat < xs.length := by omega
    have ei : ((i.toNat : Nat) : Int) = i := Int.toNat_of_nonneg h0
    have hx : xs[i.toNat]? = some xs[i.toNat] := List.getElem?_eq_getElem hi
    have ha := atI_nat hx
    rw [ei] at ha
    exact ⟨t, xs, i, _, rfl, rfl, SqL.of (sb _ _ ntb ht), ha, k _ _ (List.getElem_mem hi) sb hb1⟩
abbrev s_law_alike : Stmt := top 15
theorem sc_law_alike : FnScope ["found", "due"] ["found", "due"] (defScope s_law_alike) := ⟨rfl, rfl, rfl, by decide +kernel, rfl, by decide +kernel, by decide +kernel⟩
end
end K

set_option Elab.async false
set_option linter.all false
set_option maxRecDepth 100000
set_option maxHeartbeats 8000000
namespace K
open PySem PySem.Spec PyProof.Rows L2 G D L S C Sx Kx Ex Lt
open Fz hiding Fr
open C8 (pss_cut tCut)
open PySem.W (dataLt alike)
section
variable {P : Program} {w : World} {K : PySem.W.Frag} {mg : Str → Option Value} {base : Heap}
theorem gd_all {ds : List Dat} (h : (ds.all gdB) = true) : ∀ d ∈ ds, Gd d := fun d hd => gd_of (List.all_eq_true.mp h d hd)
theorem wd_one {d : Dat} (h : Wd d) : Wd (.lst [d]) ∧ Wd (.tup [d]) := by
  have q : Wd (.lst [d]) := by
    show (decide ([d].length ≤ 1000) && (wd d && true)) = true
    rw [show wd d = true from h]
    rfl
  exact ⟨q, q⟩
theorem gd_zeros : Gd (.lst (List.replicate 900 (.int 0))) := by
  refine ⟨(fine_lst (k := 1) (n := 1) (m := 900) (fun d hd => ?_) (by rw [List.length_replicate]; exact Nat.le_refl _)).mono (by decide) (by decide), by decide +kernel, by decide +kernel, rfl, fun ds e d hd => by
    injection e with e
    subst e
    rw [List.eq_of_mem_replicate hd]
    exact ⟨fine_of (by decide +kernel), rfl⟩⟩
  rw [List.eq_of_mem_replicate hd]
  exact fine_of (by decide +kernel)
abbrev s_law_odd : Stmt := top 20
theorem sc_law_odd : FnScope ["bag", "deep", "k", "odd"] ["bag"] (defScope s_law_odd) := ⟨rfl, rfl, rfl, by decide +kernel, rfl, by decide +kernel, by decide +kernel⟩
theorem ok_odd {f : Addr} {fd : FuncData} (F : Fun K "_law_odd" "_law_odd" s_law_odd f fd) (T : Bl mg)
    (D_law_take : Def P w K mg base 2 "_law_take" ["bag", "many"] spTake) (D_law_one : Def P w K mg base 3 "_law_one" ["bag", "things"] spOne) :
    Fn P w K mg base CX0 4 f fd ["bag"] (spDraw K Gd) := by
  refine fn_calm F sc_law_odd (fun vs H Q E h => ?_) (fun cdv A outer s H vs Q E hc hr h => ?_)
  · obtain ⟨b, F, rfl, _⟩ := h
    rfl
  · obtain ⟨b, F0, rfl, fr, k⟩ := h
    refine ⟨_, (pss_cons (ps_set (i := 1) sc_law_odd.nd rfl (Or.inl rfl) (pe_def D_law_one hc (hr.mono (by decide)) (pa_cons (pv 0) (pa_cons (pe_lit (d := .lst [.lst [], .dct [] [], .tup [], .str "a"]) 9 (by rfl) (by rfl)) pa_nil))))
 (pss_cons (ps_for PassesOwn.never rfl (pi_range1 rfl T.rangeN (pa_cons pe_int pa_nil)) (pg_name (i := 2) sc_law_odd.nd rfl (Or.inl rfl))
  (pss_one (ps_set (i := 1) sc_law_odd.nd rfl (Or.inl rfl) (pe_ifExp (pt_cmpR op_eq (pe_def D_law_take hc (hr.mono (by decide)) (pa_cons (pv 0) (pa_cons pe_int pa_nil))) pe_int (nomark _)) (pe_lst (pa_cons (pv 1) pa_nil)) (pe_tup (pa_cons (pv 1) pa_nil))))))
 (pss_cons (ps_set (i := 3) sc_law_odd.nd rfl (Or.inl rfl) (pe_lit (d := .lst [.non, .bl true, .bl false, .int 0, .int 1, .int (-(1 : Int)), .int 64, .int 65, .int ((10 : Int) ^ (39 : Int).toNat), .int (-(((10 : Int) ^ (39 : Int).toNat) : Int)), .str "", .str "a", .str "A", .str "ninesigns", .str "?", .str "+given", .str "+kept"]) 9 (by rfl) (by rfl)))
 (pss_cons (ps_set (i := 3) sc_law_odd.nd rfl (Or.inl rfl) (pe_op op_cat (pv 3) (pe_lst (pa_mix 9 13 (ds := [.str "a b", .str "a\n", .lst [], .tup [], .dct [] [], .lst [.int 0], .tup [.int 0], .lst [.str "a"], .tup [.str "a"], .lst [.lst [.str "a"]], .tup [.tup [.str "a"]], .dct [.inr "a"] [.int 0], .dct [.inl 0] [.str "a"]]) (by rfl) (by rfl) (pa_cons (pv 1) pa_nil)))))
 (pss_cons (ps_set (i := 3) sc_law_odd.nd rfl (Or.inl rfl) (pe_op op_cat (pv 3) (pe_lit (d := .lst [.tup [.str "a", .int 0, .str "", .int 0, .bl false, .tup []], .tup [.str "a", .str "b"], .tup [.tup [.str "a", .str "b"]], .lst [.tup [.str "a", .str "b"]], .tup [.str "call", .str "a", .str "b", .str ""]]) 9 (by rfl) (by rfl))))
 (pss_one (ps_ret (pe_def D_law_one hc (hr.mono (by decide)) (pa_cons (pv 0) (pa_cons (pe_op op_cat (pv 3) (pe_lst (pa_mix 9 2 (ds := [.tup [.str "hand", .str "a", .str "b", .str "c"], .tup [.str "throw", .str "a"]]) (by rfl) (by rfl) (pa_cons (pe_op op_rep (pe_lit (d := .lst [.int 0]) 9 (by rfl) (by rfl)) pe_int) (pa_cons (pe_lit (d := .lst [.str "a", .str "a"]) 9 (by rfl) (by rfl)) (pa_cons (pe_lit (d := .tup [.str "a", .non]) 9 (by rfl) (by rfl)) pa_nil)))))) pa_nil)))))))))), ?_⟩
    refine ⟨_, rfl, fun v N H1 n1 r1 => ?_⟩
    obtain ⟨F1x, fr1, sF1, sN1⟩ := (Go.refl fr).lit' n1
    obtain ⟨t, xs, rfl, ht, hxs⟩ := Rep.mono sN1 _ r1
    have lx := hxs.length
    have tb : t ≠ b := fr1.ne ht
    refine ⟨b, t, xs, rfl, fr1.bag, fr1.same _ _ ht, tb, ?_, by rw [lx]; decide, fun dv H2 hdv sb2 bg2 => ?_⟩
    · intro z
      rw [z] at lx
      cases lx
    have fr2 := fr1.took sb2 bg2
    obtain ⟨d0, hd0, rd0⟩ := rep_mem hxs hdv
    have g0 : Fine 1 3 d0 ∧ Wd d0 ∧ top1 d0 ≤ 1 ∧ elB d0 = true := by
      have : ([.lst [], .dct [] [], .tup [], .str "a"] : List Dat).all (fun d => fineB 1 3 d && wd d && decide (top1 d ≤ 1) && elB d) = true := by decide +kernel
      have q := List.all_eq_true.mp this d0 hd0
      simp only [Bool.and_eq_true, decide_eq_true_eq] at q
      exact ⟨fine_of q.1.1.1, q.1.1.2, q.1.2, q.2⟩
    refine ⟨5, rfl, by decide, by decide, ?_⟩
    refine for_range (n := 5) (fun i σ H' => ∃ (v : V) (o : Option V) (d : Dat) (F' : Hp), σ = [some (.ref b), some v, o, none] ∧ Go b F0 H F' H' ∧ Rep K F' v d ∧ Fine (i + 1) (3 + 5 * i) d ∧ Wd d ∧ top1 d ≤ 1 ∧ ∀ ds, d = .lst ds → ∀ e ∈ ds, Fine 8 4000 e ∧ not6 e = true)
      ⟨dv, none, d0, _, rfl, fr2, rd0, g0.1, g0.2.1, g0.2.2.1, el_of g0.2.2.2⟩ ?_ ?_
    · rintro i σ H3 hi ⟨v, o, d, F3, rfl, fr3, r3, f3, w3, t3, x3⟩
      refine ⟨_, rfl, b, 2, rfl, fr3.bag, by decide, by decide, fun q H4 _ _ sb4 bg4 => ⟨rfl, _, rfl, ?_⟩⟩
      have fr4 := fr3.took sb4 bg4
      refine ite2 (fun e => ?_) (fun e => ?_)
      · refine ⟨_, rfl, by show 1 ≤ sizeLine; decide, fun p hp => ?_⟩
        obtain ⟨F5x, fr5, s5, at5⟩ := fr4.put' (o := .lst [v]) hp
        refine ⟨.ref p, _, .lst [d], _, rfl, fr5, ⟨p, [v], rfl, at5, v, [], rfl, Rep.mono s5 _ r3, rfl⟩, ?_, (wd_one w3).1, Nat.le_refl 1, fun ds e d' hd => by
          injection e with e
          subst e
          rw [List.mem_singleton] at hd
          subst hd
          exact ⟨f3.mono (by omega) (by omega), not6_of t3⟩⟩
        have z := fine_lst (m := 1) (ds := [d]) (fun x hx => by rw [List.mem_singleton] at hx; subst hx; exact f3) (Nat.le_refl _)
        exact z.mono (by omega) (by omega)
      · refine ⟨_, rfl, by show 1 ≤ sizeLine; decide, fun p hp => ?_⟩
        obtain ⟨F5x, fr5, s5, at5⟩ := fr4.put' (o := .tup [v]) hp
        refine ⟨.ref p, _, .tup [d], _, rfl, fr5, ⟨p, [v], rfl, at5, v, [], rfl, Rep.mono s5 _ r3, rfl⟩, ?_, (wd_one w3).2, Nat.le_refl 1, fun ds e => by cases e⟩
        have z := fine_tup (m := 1) (ds := [d]) (fun x hx => by rw [List.mem_singleton] at hx; subst hx; exact f3) (Nat.le_refl _)
        exact z.mono (by omega) (by omega)
    · rintro σ H3 ⟨v, o, d, F3, rfl, fr3, r3, f3, w3, t3, x3⟩
      have gd : Gd d := ⟨f3.mono (by decide) (by decide), w3, Nat.le_trans t3 (by decide), not6_of t3, x3⟩
      -- the first seventeen
      intro o1 N4 H4 n4 r4
      obtain ⟨F4x, fr4, sF4, sN4⟩ := fr3.lit' n4
      obtain ⟨t1, x1, rfl, h1, hx1⟩ := Rep.mono sN4 _ r4
      have l1 := hx1.length
      -- the next ones, deep among them
      refine ⟨_, rfl, fun vs N5 H5 n5 r5 => ?_⟩
      obtain ⟨F5x, fr5, sF5, sN5⟩ := fr4.lit' n5
      have r5' := RepAll.mono sN5 _ r5
      have l5 := r5.length
      refine ⟨_, rfl, by show (vs ++ [v]).length ≤ sizeLine; rw [List.length_append, l5]; exact (by decide : 13 + 1 ≤ sizeLine), fun p6 hp6 => ?_⟩
      obtain ⟨F6x, fr6, sF6, at6⟩ := fr5.put' (o := .lst (vs ++ [v])) hp6
      have h1' := (sF5.trans sF6) _ _ h1
      refine ⟨t1, p6, x1, vs ++ [v], rfl, rfl, fr6.same _ _ h1', upd_same, by rw [List.length_append, l5, l1]; exact (by decide : 17 + (13 + 1) ≤ sizeLine), fun p7 hp7 => ?_⟩
      obtain ⟨F7x, fr7, sF7, at7⟩ := fr6.put' (o := .lst (x1 ++ (vs ++ [v]))) hp7
      -- five more
      refine ⟨_, rfl, fun o8 N8 H8 n8 r8 => ?_⟩
      obtain ⟨F8x, fr8, sF8, sN8⟩ := fr7.lit' n8
      obtain ⟨t8, x8, rfl, h8, hx8⟩ := Rep.mono sN8 _ r8
      have l8 := hx8.length
      have h7' := sF8 p7 _ at7
      refine ⟨p7, t8, _, x8, rfl, rfl, fr8.same _ _ h7', fr8.same _ _ h8, by rw [List.length_append, List.length_append, l5, l1, l8]; exact (by decide : 17 + (13 + 1) + 5 ≤ sizeLine), fun p9 hp9 => ?_⟩
      obtain ⟨F9x, fr9, sF9, at9⟩ := fr8.put' (o := .lst (x1 ++ (vs ++ [v]) ++ x8)) hp9
      -- the last five
      refine ⟨_, rfl, _, rfl, fun ws Na Ha na ra => ?_⟩
      obtain ⟨Fax, fra, sFa, sNa⟩ := fr9.lit' na
      have la := ra.length
      refine fun vb Nb Hb nb rb => ?_
      obtain ⟨Fbx, frb, sFb, sNb⟩ := fra.lit' nb
      obtain ⟨tb', xb, rfl, hb, hxb⟩ := Rep.mono sNb _ rb
      have lb := hxb.length
      refine ⟨tb', 900, xb, rfl, rfl, frb.same _ _ hb, by decide, by decide, by rw [lb]; exact (by decide : 1 * (900 : Int).toNat ≤ sizeLine), fun pc hpc => ?_⟩
      obtain ⟨Fcx, frc, sFc, atc⟩ := frb.put' (o := .lst (List.replicate (900 : Int).toNat xb).flatten) hpc
      refine fun vd Nd Hd nd rd ve Ne He nne re => ?_
      obtain ⟨Fdx, frd, sFd, sNd⟩ := frc.lit' nd
      obtain ⟨Fex, fre, sFe, sNe⟩ := frd.lit' nne
      refine ⟨by show (ws ++ [V.ref pc, vd, ve]).length ≤ sizeLine; rw [List.length_append, la]; exact (by decide : 2 + 3 ≤ sizeLine), fun pf hpf => ?_⟩
      obtain ⟨Ffx, frf, sFf, atf⟩ := fre.put' (o := .lst (ws ++ [V.ref pc, vd, ve])) hpf
      have s9f := (((sFa.trans sFb).trans sFc).trans sFd).trans (sFe.trans sFf)
      have h9' := s9f p9 _ at9
      refine ⟨p9, pf, _, _, rfl, rfl, frf.same _ _ h9', upd_same, ?_, fun pg hpg => ?_⟩
      · rw [List.length_append, List.length_append, List.length_append, l5, l1, l8, List.length_append, la]
        exact (by decide : 17 + (13 + 1) + 5 + (2 + 3) ≤ sizeLine)
      obtain ⟨Fgx, frg, sFg, atg⟩ := frf.put' (o := .lst (x1 ++ (vs ++ [v]) ++ x8 ++ (ws ++ [V.ref pc, vd, ve]))) hpg
      have ng : pg ≠ b := frg.ne atg
      refine ⟨b, pg, _, rfl, frg.bag, upd_same, ng, ?_, ?_, fun vz Hz hvz sbz bgz => ?_⟩
      · intro z
        have := congrArg List.length z
        rw [List.length_append, List.length_append, List.length_append, l1] at this
        simp at this
      · rw [List.length_append, List.length_append, List.length_append, List.length_append, l5, l1, l8, List.length_append, la]
        exact (by decide : 17 + (13 + 1) + 5 + (2 + 3) < 1000000)
      have frz := frg.took sbz bgz
      -- whichever it was
      have sfg := sFf.trans sFg
      have s9g := s9f.trans sFg
      have s7g := (sF8.trans sF9).trans s9g
      have s5g := (sF6.trans sF7).trans s7g
      have all : ∃ ds : List Dat, RepAll K Fgx (x1 ++ (vs ++ [v]) ++ x8 ++ (ws ++ [V.ref pc, vd, ve])) ds ∧ ∀ d ∈ ds, Gd d := by
        have a1 := RepAll.mono (sF5.trans s5g) _ hx1
        have a2 := RepAll.mono s5g _ r5'
        have a3 : Rep K Fgx v d := Rep.mono ((sF4.trans sF5).trans s5g) _ r3
        have a4 := RepAll.mono (sF9.trans s9g) _ hx8
        have sa := (((sFb.trans sFc).trans sFd).trans sFe).trans sfg
        have a5 := RepAll.mono (sNa.trans sa) _ ra
        have a7 := Rep.mono (sNd.trans (sFe.trans sfg)) _ rd
        have a8 := Rep.mono (sNe.trans sfg) _ re
        have a6 : Rep K Fgx (.ref pc) (.lst (List.replicate 900 (.int 0))) := by
          refine ⟨pc, List.replicate 900 (.int 0), rfl, ((sFd.trans sFe).trans sfg) pc _ ?_, ?_⟩
          · rw [atc]
            have : xb = [V.int 0] := by
              obtain ⟨v0, r0, e0, q0, t0⟩ := hxb
              rw [e0, show v0 = V.int 0 from q0, show r0 = [] from t0]
            rw [this]
            have : ∀ n : Nat, (List.replicate n [V.int 0]).flatten = List.replicate n (V.int 0) := fun n => by
              induction n with
              | zero => rfl
              | succ n ih => rw [List.replicate_succ, List.flatten_cons, ih, List.replicate_succ]; rfl
            rw [this]
            rfl
          · have : ∀ n : Nat, RepAll K Fgx (List.replicate n (V.int 0)) (List.replicate n (.int 0)) := fun n => by
              induction n with
              | zero => exact rfl
              | succ n ih => exact ⟨_, _, rfl, rfl, ih⟩
            exact this 900
        refine ⟨_, RepAll.append (RepAll.append (RepAll.append a1 (RepAll.append a2 (.one a3))) a4) (RepAll.append a5 (show RepAll K Fgx [V.ref pc, vd, ve] [.lst (List.replicate 900 (.int 0)), .lst [.str "a", .str "a"], .tup [.str "a", .non]] from ⟨_, _, rfl, a6, _, _, rfl, a7, _, _, rfl, a8, rfl⟩)), ?_⟩
        intro x hx
        rcases List.mem_append.mp hx with hx | hx
        · rcases List.mem_append.mp hx with hx | hx
          · rcases List.mem_append.mp hx with hx | hx
            · exact gd_all (by decide +kernel) x hx
            · rcases List.mem_append.mp hx with hx | hx
              · exact gd_all (by decide +kernel) x hx
              · rw [List.mem_singleton] at hx
                subst hx
                exact gd
          · exact gd_all (by decide +kernel) x hx
        · rcases List.mem_append.mp hx with hx | hx
          · exact gd_all (by decide +kernel) x hx
          · rcases List.mem_cons.mp hx with rfl | hx
            · exact gd_zeros
            · exact gd_all (by decide +kernel) x hx
      obtain ⟨ds, rds, gds⟩ := all
      obtain ⟨dz, hdz, rdz⟩ := rep_mem rds hvz
      exact k vz dz _ Hz frz rdz (gds dz hdz)
end
end K

set_option Elab.async false
set_option linter.all false
set_option maxRecDepth 100000
set_option maxHeartbeats 4000000
/-! A thing of one's own beside the frozen part: written, and frozen at last. -/
namespace Fz
open PySem PySem.Spec PyProof.Rows L2 G D L S C Sx Kx Lt
section
variable {b D : Addr} {F H F1 H1 F2 H2 : Hp} {o o' : HO}
theorem Go.write (a : Go b F H F1 H1) (hD : H D = none) (fD : F1 D = none) (nD : D ≠ b) : Go b F H F1 (upd H1 D o) := by
  refine ⟨⟨fun y u e => ?_, a.out, ?_⟩, a.up, fun y u ny e => ?_, a.new⟩
  · have : y ≠ D := fun z => by rw [z, fD] at e; cases e
    rw [upd_ne this]
    exact a.same _ _ e
  · obtain ⟨l, q, ⟨c0, c1, c2, ms, q1, q2, q3⟩, hl⟩ := a.fr.cell
    have lD : l ≠ D := fun z => by
      rw [z, fD] at hl
      cases hl
    refine ⟨l, q, ⟨c0, c1, c2, ms, ?_, ?_, q3⟩, hl⟩
    · rw [upd_ne nD.symm]; exact q1
    · rw [upd_ne lD]; exact q2
  · rw [upd_ne (ne_of_none e hD)]
    exact a.but _ _ ny e
theorem Go.freeze (a : Go b F H F1 H1) (hD : H D = none) (fD : F1 D = none) (nD : D ≠ b) (at1 : H1 D = some o) : Go b F H (upd F1 D o) H1 := by
  refine ⟨⟨fun y u e => ?_, ?_, ?_⟩, a.up.trans (same_upd fD), a.but, fun y u e => ?_⟩
  · by_cases q : y = D
    · subst q
      rw [upd_same] at e
      rw [at1, ← e]
    · rw [upd_ne q] at e
      exact a.same _ _ e
  · rw [upd_ne nD.symm]
    exact a.out
  · obtain ⟨l, q, q1, q2⟩ := a.fr.cell
    exact ⟨l, q, q1, same_upd fD _ _ q2⟩
  · by_cases q : y = D
    · subst q
      exact .inr hD
    · rw [upd_ne q] at e
      exact a.new _ _ e
/-- what lies outside of the frozen part stays outside -/
theorem Go.outside (a : Go b F H F1 H1) (fD : F D = none) (at1 : H D = some o) : F1 D = none := by
  cases q : F1 D with
  | none => rfl
  | some u =>
    rcases a.new _ _ q with z | z
    · rw [fD] at z; cases z
    · rw [at1] at z; cases z
/-- a list of one's own -/
structure Own (K : PySem.W.Frag) (G : Dat → Prop) (b D : Addr) (F0 H0 F H : Hp) (xs : List V) (ds : List Dat) : Prop where
  go : Go b F0 H0 F H
  z0 : H0 D = none
  fD : F D = none
  nD : D ≠ b
  at1 : H D = some (.lst xs)
  hs : RepAll K F xs ds
  al : ∀ d ∈ ds, G d
variable {K : PySem.W.Frag} {G : Dat → Prop} {F0 H0 : Hp} {xs ys : List V} {ds es : List Dat}
theorem Own.set (a : Own K G b D F0 H0 F H xs ds) (h : RepAll K F ys es) (g : ∀ d ∈ es, G d) : Own K G b D F0 H0 F (upd H D (.lst ys)) ys es := by
  refine ⟨?_, a.z0, a.fD, a.nD, upd_same, h, g⟩
  exact a.go.write a.z0 a.fD a.nD
theorem Own.on (a : Own K G b D F0 H0 F H xs ds) (g : Go b F H F1 H1) : Own K G b D F0 H0 F1 H1 xs ds :=
  ⟨a.go.trans g, a.z0, g.outside a.fD a.at1, a.nD, g.but _ _ a.nD a.at1, RepAll.mono g.up _ a.hs, a.al⟩
theorem Own.end (a : Own K G b D F0 H0 F H xs ds) : Go b F0 H0 (upd F D (.lst xs)) H ∧ Rep K (upd F D (.lst xs)) (.ref D) (.lst ds) :=
  ⟨a.go.freeze a.z0 a.fD a.nD a.at1, D, xs, rfl, upd_same, RepAll.mono (same_upd a.fD) _ a.hs⟩
/-- a new list of one's own -/
theorem Go.own (a : Go b F0 H0 F H) (hD : H D = none) (h : RepAll K F ys es) (g : ∀ d ∈ es, G d) : Own K G b D F0 H0 F (upd H D (.lst ys)) ys es := by
  have z0 : H0 D = none := by
    cases q : H0 D with
    | none => rfl
    | some u =>
      by_cases e : D = b
      · obtain ⟨o, z⟩ := a.fr.some
        rw [e, z] at hD
        cases hD
      · rw [a.but _ _ e q] at hD
        cases hD
  have nD : D ≠ b := fun e => by
    obtain ⟨o, z⟩ := a.fr.some
    rw [e, z] at hD
    cases hD
  exact ⟨a.grow (same_upd hD), z0, a.same.free hD, nD, upd_same, h, g⟩
end
section
open C
variable {b : Addr} {F H1 : Hp} {K : PySem.W.Frag}
/-- a comprehension over a range, each turn of which draws a datum; the turn knows that the frozen part has grown -/
theorem lc_drawS {lo : Int} {n : Nat} {g : TG} {te : TE} {vs : List Nat} {σ : L2.St} {D : Addr} {Qd : Hp → Prop} (Gd : Dat → Prop) (hz : n < sizeLine) (hD : H1 D = none) (f : Fr F H1 b)
    (turn : ∀ (i : Nat) (F' H : Hp) (Kt : V → Hp → Prop), Fr F' H b → Same F F' →
      (∀ v d F2 H2, Go b F' H F2 H2 → Rep K F2 v d → Gd d → Kt v H2) →
      g (.int (lo + (i : Nat))) (wipe σ vs) H fun σ2 H2 => wipe σ2 vs = wipe σ vs ∧ te σ2 H2 Kt)
    (done : ∀ F' H xs ds, Go b F H1 F' H → H D = some (.lst xs) → F' D = none → D ≠ b → RepAll K F' xs ds → ds.length = n → (∀ d ∈ ds, Gd d) → Qd H) :
    ∃ W : Nat → Nat → Hp → Prop, (∃ m, W 0 m (upd H1 D (.lst []))) ∧ ∀ i m H, W i m H →
      ((Itr lo n).stop i H ∧ Qd H) ∨ ((Itr lo n).go i H ∧ ∃ Nx : Hp → Prop, (∀ H', Nx H' → ∃ m', m' < m ∧ W (i + 1) m' H') ∧ ∀ x H', (Itr lo n).yld i H x H' →
        g x (wipe σ vs) H' fun σ2 H2 => wipe σ2 vs = wipe σ vs ∧ tYes σ2 H2 fun b H3 =>
          if b = true then te σ2 H3 fun y H4 => ∃ acc, H4 D = some (.lst acc) ∧ acc.length < sizeLine ∧ Nx (upd H4 D (.lst (acc ++ [y]))) else Nx H3) := by
  have Db : D ≠ b := fun z => by
    obtain ⟨o, e⟩ := f.some
    rw [z, e] at hD
    cases hD
  refine lc_it walk_range (fun i H => ∃ F' xs ds, Go b F H1 F' H ∧ H D = some (.lst xs) ∧ F' D = none ∧ RepAll K F' xs ds ∧ ds.length = i ∧ ∀ d ∈ ds, Gd d)
    ⟨F, [], [], (Go.refl f).grow (same_upd hD), upd_same, f.same.free hD, rfl, rfl, fun _ h => nomatch h⟩ (fun _ _ _ _ => trivial) ?_ ?_
  · rintro i x H H' hi ⟨F', xs, ds, go, hd, fd, hr, hl, hg⟩ ⟨rfl, rfl⟩
    refine turn i F' H' _ go.fr go.up fun v d F2 H2 g2 r2 gd => ?_
    have hd2 := g2.but _ _ Db hd
    have fd2 : F2 D = none := by
      cases q : F2 D with
      | none => rfl
      | some o =>
        rcases g2.new _ _ q with z | z
        · rw [fd] at z; cases z
        · rw [hd] at z; cases z
    have g3 := go.trans g2
    have lx := hr.length
    refine ⟨xs, hd2, by rw [lx, hl]; omega, F2, xs ++ [v], ds ++ [d], ⟨⟨fun y o e => ?_, g3.out, ?_⟩, g3.up, fun y o ny e => ?_, g3.new⟩, upd_same, fd2, RepAll.append (RepAll.mono g2.up _ hr) (.one r2), ?_, ?_⟩
    · have : y ≠ D := fun z => by rw [z, fd2] at e; cases e
      rw [upd_ne this]
      exact g3.same _ _ e
    · obtain ⟨l, o, ⟨c0, c1, c2, ms, q1, q2, q3⟩, hl2⟩ := g3.fr.cell
      have lD : l ≠ D := fun z => by
        rw [z, fd2] at hl2
        cases hl2
      refine ⟨l, o, ⟨c0, c1, c2, ms, ?_, ?_, q3⟩, hl2⟩
      · rw [upd_ne Db.symm]; exact q1
      · rw [upd_ne lD]; exact q2
    · have : y ≠ D := ne_of_none e hD
      rw [upd_ne this]
      exact g3.but _ _ ny e
    · rw [List.length_append, hl]; rfl
    · intro e he
      rcases List.mem_append.mp he with he | he
      · exact hg e he
      · rw [List.mem_singleton] at he
        subst he
        exact gd
  · rintro H ⟨F', xs, ds, go, hd, fd, hr, hl, hg⟩
    exact done F' H xs ds go hd fd Db hr hl hg
end
end Fz

set_option Elab.async false
set_option linter.all false
set_option maxRecDepth 100000
set_option maxHeartbeats 8000000
namespace K
open PySem PySem.Spec PyProof.Rows L2 G D L S C Sx Kx Ex Lt
open Fz hiding Fr
open C8 (pss_cut tCut)
open PySem.W (dataLt alike AllAlike Sortable)
theorem set_perm {α : Type} {xs : List α} {i : Nat} {y : α} (h : i ≤ xs.length) : (xs.take i ++ [y] ++ xs.drop i).Perm (xs ++ [y]) := by
  have e : xs.take i ++ xs.drop i = xs := List.take_append_drop i xs
  have p : (xs.take i ++ [y] ++ xs.drop i).Perm (xs.take i ++ (xs.drop i ++ [y])) := by
    rw [List.append_assoc]
    exact (List.perm_append_comm).append_left _
  refine p.trans ?_
  rw [← List.append_assoc, e]
/-- the same things, in another order -/
def spMixed (K : PySem.W.Frag) : Sp := fun vs H Q _ => ∃ (b t : Addr) (F : Hp) (xs : List V) (ds : List Dat), vs = [.ref b, .ref t] ∧ Fz.Fr F H b ∧ F t = some (.lst xs) ∧ RepAll K F xs ds ∧ ds.length ≤ 1000 ∧
  ∀ v es F' H', Go b F H F' H' → Rep K F' v (.lst es) → es.Perm ds → Q v H'
section
variable {P : Program} {w : World} {K : PySem.W.Frag} {mg : Str → Option Value} {base : Heap}
abbrev s_law_mixed : Stmt := top 16
theorem sc_law_mixed : FnScope ["bag", "things", "found", "thing"] ["bag", "things"] (defScope s_law_mixed) := ⟨rfl, rfl, rfl, by decide +kernel, rfl, by decide +kernel, by decide +kernel⟩
theorem ok_mixed {f : Addr} {fd : FuncData} (F : Fun K "_law_mixed" "_law_mixed" s_law_mixed f fd) (T : Bl mg)
    (D_law_take : Def P w K mg base 2 "_law_take" ["bag", "many"] spTake) : Fn P w K mg base CX0 3 f fd ["bag", "things"] (spMixed K) := by
  refine fn_calm F sc_law_mixed (fun vs H Q E h => ?_) (fun cdv A outer s H vs Q E hc hr h => ?_)
  · obtain ⟨b, t, F, xs, ds, rfl, _⟩ := h
    rfl
  · obtain ⟨b, t, F0, xs, ds, rfl, fr, ht, hxs, hl, k⟩ := h
    have lx := hxs.length
    refine ⟨_, (pss_cons (ps_set (i := 2) sc_law_mixed.nd rfl (Or.inl rfl) (pe_lst pa_nil))
 (pss_cons (ps_for PassesOwn.never rfl (pi_list (pv 1)) (pg_name (i := 3) sc_law_mixed.nd rfl (Or.inl rfl))
  (pss_one (ps_expr (pe_bm PySem.F.plainAttrs_list PySem.F.slot_list_insert PySem.F.type_list_insert mt_insert (pv 2) (pa_cons (pe_def D_law_take hc (hr.mono (by decide)) (pa_cons (pv 0) (pa_cons (pe_op op_add (pe_callB call_len_seq (by rfl) T.lenN (by decide +kernel) (pa_cons (pv 2) pa_nil)) pe_int) pa_nil))) (pa_cons (pv 3) pa_nil))))))
 (pss_one (ps_ret (pv 2))))), ?_⟩
    refine ⟨by decide, fun D hD => ?_⟩
    have own0 := (Go.refl fr).own (G := fun _ => True) (ys := []) (es := []) (K := K) hD rfl (fun _ h => nomatch h)
    refine ⟨_, rfl, t, rfl, ⟨xs, SqL.of (own0.go.same _ _ ht)⟩, for_list (K := K) (a := t) (xs := xs) (fun i σ H' => ∃ (F' : Hp) (ys : List V) (es : List Dat) (o : Option V), σ = [some (.ref b), some (.ref t), some (.ref D), o] ∧ Own K (fun _ => True) b D F0 H F' H' ys es ∧ es.Perm (ds.take i) ∧ es.length = i)
      ⟨_, _, _, none, rfl, own0, by rw [List.take_zero], rfl⟩ (fun i σ H' _ h => ?_) ?_ ?_⟩
    · obtain ⟨F', ys, es, o, _, ow, _⟩ := h
      exact SqL.of (ow.go.same _ _ (ow.go.up _ _ ht))
    · rintro i x σ H' hx ⟨F', ys, es, o, rfl, ow, pe, le⟩
      have ly := ow.hs.length
      have li : i < xs.length := (List.getElem?_eq_some_iff.mp hx).1
      refine ⟨_, rfl, .inl ⟨rfl, ys, SqL.of ow.at1⟩, _, rfl, _, rfl, D, ys, rfl, .inl (SqL.of ow.at1), _, _, rfl, rfl, b, _, rfl, ow.go.bag, by omega, by omega, fun k0 H2 a0 a1 sb bt => ?_⟩
      have ow2 := ow.on ((Go.refl ow.go.fr).took sb bt)
      obtain ⟨d, hd, rd⟩ := hxs.get hx
      have rd2 := Rep.mono ow2.go.up _ rd
      refine ⟨_, rfl, D, ys, k0, x, rfl, rfl, ow2.at1, Nat.lt_of_le_of_lt (by omega : ys.length ≤ 1000) (by decide), a0, by omega, F', _, es.take k0.toNat ++ [d] ++ es.drop k0.toNat, _, rfl, ow2.set (RepAll.append (RepAll.append (RepAll.take _ ow2.hs) (.one rd2)) (RepAll.drop _ ow2.hs)) (fun _ _ => trivial), ?_, ?_⟩
      · refine (set_perm (by omega)).trans ?_
        rw [List.take_add_one, hd]
        exact pe.append_right _
      · rw [(set_perm (by omega)).length_eq, List.length_append, le]
        rfl
    · rintro σ H' ⟨F', ys, es, o, rfl, ow, pe, le⟩
      refine ⟨_, rfl, k _ es _ _ ow.end.1 ow.end.2 ?_⟩
      rw [lx, List.take_length] at pe
      exact pe
abbrev s_law_menu : Stmt := top 26
theorem sc_law_menu : FnScope ["bag", "some"] ["bag"] (defScope s_law_menu) := ⟨rfl, rfl, rfl, by decide +kernel, rfl, by decide +kernel, by decide +kernel⟩
def words : List Str := ["ann", "bob", "cy", "dee", "cup", "key", "x", "buy", "ask", "put", "get", "go", "a", "z", "eightlet", "b"]
/-- names, no two of them the same -/
structure Gnames (n : Nat) (d : Dat) : Prop where
  ex : ∃ ws : List Str, d = .lst (ws.map .str) ∧ ws.Nodup ∧ ws.length = n ∧ (∀ w ∈ ws, nameOk w = true) ∧ ("extra" : Str) ∉ ws
theorem perm_map_str {es : List Dat} {ws : List Str} (h : es.Perm (ws.map .str)) : ∃ us : List Str, es = us.map .str ∧ us.Perm ws := by
  refine ⟨es.map strOf, ?_, ?_⟩
  · rw [List.map_map]
    have : ∀ e ∈ es, (Dat.str ∘ strOf) e = e := by
      intro e he
      obtain ⟨w, _, rfl⟩ := List.mem_map.mp (h.mem_iff.mp he)
      rfl
    rw [List.map_congr_left this]
    simp
  · have := h.map strOf
    rw [List.map_map] at this
    have e : (strOf ∘ Dat.str) = id := rfl
    rw [e, List.map_id] at this
    exact this
theorem ok_menu {f : Addr} {fd : FuncData} (F : Fun K "_law_menu" "_law_menu" s_law_menu f fd) (T : Bl mg)
    (D_law_mixed : Def P w K mg base 3 "_law_mixed" ["bag", "things"] (spMixed K)) : Fn P w K mg base CX0 4 f fd ["bag"] (spDraw K (Gnames 16)) := by
  refine fn_calm F sc_law_menu (fun vs H Q E h => ?_) (fun cdv A outer s H vs Q E hc hr h => ?_)
  · obtain ⟨b, F, rfl, _⟩ := h
    rfl
  · obtain ⟨b, F0, rfl, fr, k⟩ := h
    refine ⟨_, (pss_cons (ps_set (i := 1) sc_law_menu.nd rfl (Or.inl rfl) (pe_lit (d := .lst [.str "ann", .str "bob", .str "cy", .str "dee", .str "cup", .str "key", .str "x", .str "buy", .str "ask", .str "put", .str "get", .str "go", .str "a", .str "z", .str "eightlet", .str "b"]) 9 (by rfl) (by rfl)))
 (pss_one (ps_ret (pe_def D_law_mixed hc (hr.mono (by decide)) (pa_cons (pv 0) (pa_cons (pv 1) pa_nil)))))), ?_⟩
    intro v1 N1 H1 n1 r1
    obtain ⟨F1, g1, s1, t1⟩ := (Go.refl fr).lit' n1
    obtain ⟨a1, x1, rfl, h1, hx1⟩ := Rep.mono t1 _ r1
    refine ⟨_, rfl, _, rfl, b, a1, F1, x1, _, rfl, g1.fr, h1, hx1, by decide, fun v es F' H' g2 r2 pe => ?_⟩
    obtain ⟨us, rfl, pu⟩ := perm_map_str (ws := words) pe
    refine k v _ F' H' (g1.trans g2) r2 ⟨us, rfl, pu.nodup_iff.mpr (by decide +kernel), pu.length_eq, fun w hw => ?_, fun h => absurd (pu.mem_iff.mp h) (by decide +kernel)⟩
    exact List.all_eq_true.mp (by decide +kernel : words.all nameOk = true) w (pu.mem_iff.mp hw)
end
end K

set_option Elab.async false
set_option linter.all false
set_option maxRecDepth 100000
set_option maxHeartbeats 4000000
namespace Kx
open PySem PySem.Spec PyProof.Rows L2 G D L S C Sx
section
variable {X : Cx} {K : PySem.W.Frag} {e : Expr} {f : Str} {pos : Pos} {ta : TE}
theorem op_in_seqK (hK : X.K = K) : OpR X (compareOp .In) (rIn K false) := hK ▸ op_in_seq
theorem op_notIn_seqK (hK : X.K = K) : OpR X (compareOp .NotIn) (rIn K true) := hK ▸ op_notIn_seq
theorem pe_fldK (hK : X.K = K) (he : PE X e ta) (hb : attributeBase e f X.env (eval e X.env) = eval e X.env) : PE X (.Attribute e f pos) (tFld K ta f) := hK ▸ pe_fld he hb
end
theorem eqV_str (a b : Str) : eqV (.str a) (.str b) = decide (a = b) := by
  by_cases h : a = b
  · subst h
    simp [eqV]
  · simp [eqV, h]
theorem inV_str (x : Str) (xs : List Str) : inV (.str x) (xs.map .str) = decide (x ∈ xs) := by
  unfold inV
  induction xs with
  | nil => simp
  | cons y ys ih =>
    rw [List.map_cons, List.any_cons, ih, eqV_str]
    by_cases h : y = x
    · subst h; simp
    · have : ¬ x = y := fun z => h z.symm
      simp [h, this]
end Kx

set_option Elab.async false
set_option linter.all false
set_option maxRecDepth 100000
set_option maxHeartbeats 4000000
/-! A list of texts and numbers beside a list of any data, by ==. -/
namespace Qe
open PySem PySem.Spec PyProof.Rows L2 G D L S C Sx Kx
open PySem.SeqAt
theorem dict_declines_int (l : Addr) (es : Array DictEntry) (n : Nat) (dd : Option Addr) (sl : Array (Option Value)) (b : Int) (u : Tok) :
    Meets (Builtin.«dict.__eq__» ⟨[.ref l, .int b u], []⟩)
      (fun _ R s => s.heap.get? l = some { cls := .type "dict", dict := dd, data := .dict es n, slots := sl } ∧ R (.ok (.ret .notImplemented)) s) :=
  .of_wp fun prog w A R s h => by
    obtain ⟨hp, g, d, tk, os⟩ := s
    obtain ⟨hl, h⟩ := h
    have f1 := F.sub_int_dict
    wp_walk using wpAny_loadPart' hl
    exact ⟨_, rfl, h⟩
theorem int_declines_dict (b : Int) (u : Tok) (l : Addr) (es : Array DictEntry) (n : Nat) (dd : Option Addr) (sl : Array (Option Value)) :
    Meets (Builtin.«int.__eq__» ⟨[.int b u, .ref l], []⟩)
      (fun _ R s => s.heap.get? l = some { cls := .type "dict", dict := dd, data := .dict es n, slots := sl } ∧ R (.ok (.ret .notImplemented)) s) :=
  .of_wp fun prog w A R s h => by
    obtain ⟨hp, g, d, tk, os⟩ := s
    obtain ⟨hl, h⟩ := h
    wp_walk using wpAny_loadPart' hl, wpAny_load hl
    exact ⟨_, rfl, h⟩
section
variable {A : Around} {s : Shared} {l : Addr} {o : Obj} {es : Array DictEntry} {n : Nat}
theorem rc_str_dict (b : Str) (u : Tok) (ho : s.heap.get? l = some o) (hx : o.cls = .type "dict") (hd : o.data = .dict es n) (hu : A.units < cLine) : RcAt A s (.str b u) (.ref l) false := fun prog w E Q h => by
  obtain ⟨cls, dd, data, sl⟩ := o
  simp only at hx hd
  subst hx hd
  exact rc_eq_decline_or (k := false) (typeIs_str s b u) ⟨_, ho, rfl⟩ (by decide) F.sub_dict_str F.slot_str_eq_refl F.slot_dict_eq
    (fun _ hq => call_meets F.slot_str_eq_refl (typeIs_str s b u) F.entry_str_eq (F.args_str_eq_2 _ _) (str_declines_dict b u l es n dd sl) ⟨ho, hq⟩)
    (fun _ hq => call_meets F.slot_dict_eq ⟨_, ho, rfl⟩ F.entry_dict_eq (F.args_dict_eq_2 _ _) (dict_declines_str l es n dd sl b u) ⟨ho, hq⟩)
    (fun _ hq => wpAny_of_eq (rfl : isSame (.str b u) (.ref l) = pure false) hq) (.inr hu) h
theorem rc_int_dict (b : Int) (u : Tok) (ho : s.heap.get? l = some o) (hx : o.cls = .type "dict") (hd : o.data = .dict es n) (hu : A.units < cLine) : RcAt A s (.int b u) (.ref l) false := fun prog w E Q h => by
  obtain ⟨cls, dd, data, sl⟩ := o
  simp only at hx hd
  subst hx hd
  exact rc_eq_decline_or (k := false) (typeIs_int s b u) ⟨_, ho, rfl⟩ (by decide) F.sub_dict_int F.slot_int_eq F.slot_dict_eq
    (fun _ hq => call_meets F.slot_int_eq (typeIs_int s b u) F.entry_int_eq (F.args_int_eq_2 _ _) (int_declines_dict b u l es n dd sl) ⟨ho, hq⟩)
    (fun _ hq => call_meets F.slot_dict_eq ⟨_, ho, rfl⟩ F.entry_dict_eq (F.args_dict_eq_2 _ _) (dict_declines_int l es n dd sl b u) ⟨ho, hq⟩)
    (fun _ hq => wpAny_of_eq (rfl : isSame (.int b u) (.ref l) = pure false) hq) (.inr hu) h
theorem eq_str_dict (b : Str) (u : Tok) (ho : s.heap.get? l = some o) (hx : o.cls = .type "dict") (hd : o.data = .dict es n) (hu : A.units < cLine) : EqAt A s (.str b u) (.ref l) false := fun prog w E Q h => by
  unfold eqBool
  refine wpAny_holding ?_
  refine wpAny_ite_split (fun hab => absurd (eq_of_beq hab) nofun) (fun _ => ?_)
  exact wpAny_bind (rc_str_dict b u ho hx hd hu prog w E _ (wpAny_truthy_bool h))
theorem eq_int_dict (b : Int) (u : Tok) (ho : s.heap.get? l = some o) (hx : o.cls = .type "dict") (hd : o.data = .dict es n) (hu : A.units < cLine) : EqAt A s (.int b u) (.ref l) false := fun prog w E Q h => by
  unfold eqBool
  refine wpAny_holding ?_
  refine wpAny_ite_split (fun hab => absurd (eq_of_beq hab) nofun) (fun _ => ?_)
  exact wpAny_bind (rc_int_dict b u ho hx hd hu prog w E _ (wpAny_truthy_bool h))
end
/-- a text or a number is equal to a datum -/
def scalEq : V → Dat → Bool
  | .str t, .str x => t == x
  | .int i, .int j => i == j
  | .int i, .bl b => i == (if b then 1 else 0)
  | _, _ => false
section
variable {X : Cx} {pins : List (Addr × Obj)} {σ : L2.St} {H : Hp} {s : Shared}
theorem eqAt_str (I : Inv X pins σ H s) {A : Around} (hu : A.units < cLine) {d : Dat} {v : V} {u : Value} (t : Str) (tk : Tok) (h : Rep X.K H v d) (hn : d.noObj = true) (r : RelV v u) : EqAt A s (.str t tk) u (scalEq (.str t) d) := by
  cases d with
  | non =>
    cases (show v = V.non from h)
    cases (show u = _ from r)
    exact .str_none t tk
  | bl b =>
    cases (show v = V.bl b from h)
    cases (show u = _ from r)
    exact .str_bool t tk b
  | int i =>
    cases (show v = V.int i from h)
    obtain ⟨k, rfl⟩ := (show ∃ t, u = Value.int i t from r)
    exact .str_int t tk i k
  | str x =>
    cases (show v = V.str x from h)
    obtain ⟨k, rfl⟩ := (show ∃ t, u = Value.str x t from r)
    exact .str_str t tk x k
  | lst ds =>
    obtain ⟨a, xs, rfl, e, _⟩ := h
    cases (show u = Value.ref a from r)
    obtain ⟨_, its, n, rv, ho⟩ := (show ObjOk X.prog X.w H s.heap a (.lst xs) from I.hok a _ e)
    exact .str_list t tk ⟨_, ho, rfl, _, rfl⟩ hu
  | tup ds =>
    obtain ⟨a, xs, rfl, e, _⟩ := h
    cases (show u = Value.ref a from r)
    obtain ⟨_, its, rv, o, ho, hc, n, hd⟩ := (show ObjOk X.prog X.w H s.heap a (.tup xs) from I.hok a _ e)
    exact .str_tuple (items := its.toArray) t tk ⟨o, ho, hc, n, hd⟩ hu
  | dct ks ds =>
    obtain ⟨a, kvs, rfl, e, _⟩ := h
    cases (show u = Value.ref a from r)
    obtain ⟨_, _, vs, rv, o, es, ep, ho, hx, hd, _⟩ := (show ObjOk X.prog X.w H s.heap a (.dK kvs) from I.hok a _ e)
    exact eq_str_dict t tk ho hx.1 hd hu
  | obj C a => cases (show false = true from hn)
theorem eqAt_int (I : Inv X pins σ H s) {A : Around} (hu : A.units < cLine) {d : Dat} {v : V} {u : Value} (i : Int) (tk : Tok) (h : Rep X.K H v d) (hn : d.noObj = true) (r : RelV v u) : EqAt A s (.int i tk) u (scalEq (.int i) d) := by
  cases d with
  | non =>
    cases (show v = V.non from h)
    cases (show u = _ from r)
    exact .int_none i tk
  | bl b =>
    cases (show v = V.bl b from h)
    cases (show u = _ from r)
    exact .int_bool i tk b
  | int j =>
    cases (show v = V.int j from h)
    obtain ⟨k, rfl⟩ := (show ∃ t, u = Value.int j t from r)
    exact .int_int i tk j k
  | str x =>
    cases (show v = V.str x from h)
    obtain ⟨k, rfl⟩ := (show ∃ t, u = Value.str x t from r)
    exact .int_str i tk x k
  | lst ds =>
    obtain ⟨a, xs, rfl, e, _⟩ := h
    cases (show u = Value.ref a from r)
    obtain ⟨_, its, n, rv, ho⟩ := (show ObjOk X.prog X.w H s.heap a (.lst xs) from I.hok a _ e)
    exact .int_list i tk ⟨_, ho, rfl, _, rfl⟩ hu
  | tup ds =>
    obtain ⟨a, xs, rfl, e, _⟩ := h
    cases (show u = Value.ref a from r)
    obtain ⟨_, its, rv, o, ho, hc, n, hd⟩ := (show ObjOk X.prog X.w H s.heap a (.tup xs) from I.hok a _ e)
    exact .int_tuple (items := its.toArray) i tk ⟨o, ho, hc, n, hd⟩ hu
  | dct ks ds =>
    obtain ⟨a, kvs, rfl, e, _⟩ := h
    cases (show u = Value.ref a from r)
    obtain ⟨_, _, vs, rv, o, es, ep, ho, hx, hd, _⟩ := (show ObjOk X.prog X.w H s.heap a (.dK kvs) from I.hok a _ e)
    exact eq_int_dict i tk ho hx.1 hd hu
  | obj C a => cases (show false = true from hn)
end
section
variable {X : Cx}
/-- a list of texts and numbers == a list of data -/
def rEqScal (K : PySem.W.Frag) : R2 := fun x y H Q => ∃ (p q : Addr) (xs ys : List V) (ds : List Dat), x = .ref p ∧ y = .ref q ∧ H p = some (.lst xs) ∧ H q = some (.lst ys) ∧ RepAll K H ys ds ∧ xs.length = ds.length ∧
  (∀ x ∈ xs, (∃ t, x = .str t) ∨ ∃ i, x = .int i) ∧ (∀ d ∈ ds, d.noObj = true) ∧ Q (.bl ((List.range xs.length).all fun j => scalEq (xs.getD j .non) (ds.getD j .non))) H
theorem op_eqScal (hu : X.A.units + 65 < cLine) : OpR X (compareOp .Eq) (rEqScal X.K) := by
  intro pins s σ H x y v u Q I rx ry h
  obtain ⟨p, q, xs, ys, ds, rfl, rfl, hp, hq, hr, hl, hx, hn, k⟩ := h
  cases (show v = Value.ref p from rx)
  cases (show u = Value.ref q from ry)
  obtain ⟨z1, is1, n1, rv1, ho1⟩ := (show ObjOk X.prog X.w H s.heap p (.lst xs) from I.hok p _ hp)
  obtain ⟨z2, is2, n2, rv2, ho2⟩ := (show ObjOk X.prog X.w H s.heap q (.lst ys) from I.hok q _ hq)
  have l1 := rv1.length
  have l2 := rv2.length
  have ly := hr.length
  have hin1 : X.A.in1.units < cLine := by simp [Around.in1]; omega
  refine eq_listAt (e := fun j => scalEq (xs.getD j .non) (ds.getD j .non)) ⟨_, ho1, rfl, n1, rfl⟩ ⟨_, ho2, rfl, n2, rfl⟩ (by rw [List.size_toArray, List.size_toArray, ← l1, ← l2, hl, ly]) (by omega) (fun j h1 h2 => ?_) ⟨.bl _, H, I, rfl, ?_⟩
  · rw [List.size_toArray] at h1 h2
    have jx : j < xs.length := by omega
    have jd : j < ds.length := by omega
    have ex : xs[j]? = some xs[j] := List.getElem?_eq_getElem jx
    have ed : ds[j]? = some ds[j] := List.getElem?_eq_getElem jd
    obtain ⟨w1, ew1, r1⟩ := rv1.get ex
    obtain ⟨y, ey, ry'⟩ := hr.nth ed
    obtain ⟨w2, ew2, r2⟩ := rv2.get ey
    have e1 : is1.toArray[j] = w1 := by
      have := List.getElem?_eq_getElem h1
      rw [ew1] at this
      simpa using (Option.some.inj this).symm
    have e2 : is2.toArray[j] = w2 := by
      have := List.getElem?_eq_getElem h2
      rw [ew2] at this
      simpa using (Option.some.inj this).symm
    rw [e1, e2]
    show EqAt X.A.in1 s w1 w2 (scalEq (xs.getD j .non) (ds.getD j .non))
    rw [show xs.getD j .non = xs[j] by simp [List.getD, ex], show ds.getD j .non = ds[j] by simp [List.getD, ed]]
    rcases hx _ (List.getElem_mem jx) with ⟨t, et⟩ | ⟨i, ei⟩
    · rw [et] at r1 ⊢
      obtain ⟨tk, rfl⟩ := (show ∃ t', w1 = Value.str t t' from r1)
      exact eqAt_str I hin1 t tk ry' (hn _ (List.getElem_mem jd)) r2
    · rw [ei] at r1 ⊢
      obtain ⟨tk, rfl⟩ := (show ∃ t', w1 = Value.int i t' from r1)
      exact eqAt_int I hin1 i tk ry' (hn _ (List.getElem_mem jd)) r2
  · rw [List.size_toArray, ← l1]
    exact k
end
end Qe

set_option Elab.async false
set_option linter.all false
set_option maxRecDepth 100000
set_option maxHeartbeats 4000000
/-! == of two dicts whose keys are tuples. -/
namespace De
open PySem PySem.Spec PyProof.Rows PySem.SeqAt
section
variable {prog : Program} {w : World} {κ : Type} [DecidableEq κ] {knd : HeapKind prog w κ} {A : Around} {E : Value → Shared → Prop} {s : Shared}
/-- what is said of the values at like keys, one key behind the other -/
inductive Like {κ : Type} [DecidableEq κ] (A : Around) (s : Shared) (ys : List (κ × Addr × Value)) : List (κ × Addr × Value) → Bool → Prop
  | nil : Like A s ys [] true
  | miss {x : κ × Addr × Value} {r : List (κ × Addr × Value)} : atKey ys x.1 = none → Like A s ys (x :: r) false
  | hit {x : κ × Addr × Value} {p : Addr × Value} {r : List (κ × Addr × Value)} {e b : Bool} : atKey ys x.1 = some p → EqAt A s x.2.2 p.2 e → Like A s ys r b → Like A s ys (x :: r) (e && b)
theorem Like.out {ys r : List (κ × Addr × Value)} {x : κ × Addr × Value} {b : Bool} (h : Like A s ys (x :: r) b) :
    (atKey ys x.1 = none ∧ b = false) ∨ ∃ p e c, atKey ys x.1 = some p ∧ EqAt A s x.2.2 p.2 e ∧ Like A s ys r c ∧ b = (e && c) := by
  cases h with
  | miss q => exact .inl ⟨q, rfl⟩
  | hit q1 q2 q3 => exact .inr ⟨_, _, _, q1, q2, q3, rfl⟩
theorem pairs_same {nm : String} {a b : Addr} {xs ys : List (κ × Addr × Value)} {r : Bool} {Q : Bool → Shared → Prop} (na : (a == sysModules) = false) (nb : (b == sysModules) = false) (hu : knd.room A)
    (da : s.heap.DictOfH knd a xs) (db : s.heap.DictOfH knd b ys) (hl : xs.length = ys.length → Like A s ys xs r) (h : Q (xs.length == ys.length && r) s) :
    wpAny (model prog w) A (Builtin.Dict.samePairs nm a b) Q E s := by
  obtain ⟨oa, es, ep, ga, _, ea, la, ia, ndx⟩ := da
  obtain ⟨ob, fs, eq, gb, _, eb, lb, ib, ndy⟩ := db
  have zx := size_of_entries la
  have zy := size_of_entries lb
  unfold Builtin.Dict.samePairs Builtin.Dict.showsAll
  rw [na, nb]
  refine wpAny_bind (wpAny_pure ?_)
  refine wpAny_bind (wpAny_pure ?_)
  refine wpAny_bind (wpAny_dictEntries ga ea ?_)
  dsimp only
  refine wpAny_bind (wpAny_dictEntries gb eb ?_)
  by_cases hz : xs.length = ys.length
  · have hq : Q r s := by
      rw [hz] at h
      simpa using h
    have same : (es.size != fs.size) = false := by rw [zx, zy, hz]; simp
    rw [same]
    refine wpAny_bind (wpAny_dictEpoch ga ea ?_)
    refine wpAny_bind ?_
    rw [Std.Legacy.Range.forIn_eq_forIn_range']
    simp only [Nat.div_one, Nat.add_sub_cancel, Nat.sub_zero, Std.Legacy.Range.size]
    refine wpAny_forIn_list _ (fun rest q t => t = s ∧ q = (none, ()) ∧ ∃ i, i ≤ es.size ∧ rest = List.range' i (es.size - i) ∧ Like A s ys (xs.drop i) r) _ ?_ ?_ _ _
      ⟨rfl, rfl, 0, Nat.zero_le _, by rw [Nat.sub_zero], by rw [List.drop_zero]; exact hl hz⟩
    · rintro j rest q t ⟨rfl, rfl, i, hi, hr, hp⟩
      have lt : i < es.size := by
        rcases Nat.lt_or_ge i es.size with g | g
        · exact g
        · rw [Nat.sub_eq_zero_of_le g] at hr
          cases hr
      have e1 : es.size - i = es.size - (i + 1) + 1 := by omega
      rw [e1, List.range'_succ] at hr
      injection hr with e2 e3
      subst e2
      have ltx : j < xs.length := by rw [← zx]; exact lt
      have ed : xs.drop j = xs[j] :: xs.drop (j + 1) := List.drop_eq_getElem_cons ltx
      have en : es[j]? = some (entryOfKey knd xs[j]) := by
        rw [entry_at la, List.getElem?_eq_getElem ltx]
        rfl
      refine wpAny_bind (wpAny_dictEntries ga ea ?_)
      rw [en]
      rw [ed] at hp
      refine wpAny_bind (wpAny_holding ?_)
      refine wpAny_bind (wpAny_dictFind_heap hu (ia _ (List.getElem_mem ltx)) gb eb lb ib ndy ?_ ?_)
      · intro no
        have nk := atKey_none_of_get no
        refine wpAny_pure (wpAny_pure (wpAny_pure ?_))
        rcases hp.out with ⟨_, e0⟩ | ⟨p, _, _, q, _⟩
        · rw [← e0]
          exact hq
        · rw [nk] at q
          cases q
      · intro m p hm
        have yk := atKey_of_get ndy hm
        refine wpAny_bind (wpAny_dictEntries gb eb ?_)
        have em : fs[m]? = some (entryOfKey knd (xs[j].1, p)) := by
          rw [entry_at lb, hm]
          rfl
        rw [em]
        rcases hp.out with ⟨q, _⟩ | ⟨p', e', c, q, eqv, rest', e0⟩
        · rw [yk] at q
          cases q
        · rw [yk] at q
          cases q
          refine wpAny_holding (eqv _ _ _ _ ?_)
          cases e' with
          | false =>
            rw [Bool.false_and] at e0
            subst e0
            exact wpAny_pure (wpAny_pure hq)
          | true =>
            rw [Bool.true_and] at e0
            subst e0
            refine wpAny_bind (wpAny_dictEpoch ga ea ?_)
            rw [if_neg (by simp)]
            exact wpAny_pure ⟨rfl, rfl, j + 1, lt, e3, rest'⟩
    · rintro q t ⟨rfl, rfl, i, hi, hr, hp⟩
      have e1 : i = es.size := by
        rcases Nat.lt_or_ge i es.size with g | g
        · rw [show es.size - i = es.size - (i + 1) + 1 by omega, List.range'_succ] at hr
          cases hr
        · omega
      rw [e1, zx, List.drop_length] at hp
      cases hp
      exact wpAny_pure hq
  · have hq : Q false s := by
      have : (xs.length == ys.length) = false := by simpa using hz
      rw [this, Bool.false_and] at h
      exact h
    rw [if_pos (by rw [zx, zy]; simpa using hz)]
    exact wpAny_bind (wpAny_rule (wpAny_pure hq))
/-- a == b, two such dicts -/
theorem dicts_eq {a b : Addr} {xs ys : List (κ × Addr × Value)} {r : Bool} {Q : Value → Shared → Prop} (na : (a == sysModules) = false) (nb : (b == sysModules) = false) (hu : A.units < cLine) (hk : knd.room A.in1)
    (da : s.heap.DictOfH knd a xs) (db : s.heap.DictOfH knd b ys) (hl : xs.length = ys.length → Like A.in1 s ys xs r) (h : Q (.bool (xs.length == ys.length && r)) s) :
    wpAny (model prog w) A (richCompare .Eq (.ref a) (.ref b)) Q E s := by
  refine wpAny_richCompare_same_room (op := .Eq) (T := "dict") da.typeIs db.typeIs PySem.F.slot_dict_eq ?_ hu
  refine wpAny_call_entry PySem.F.slot_dict_eq da.typeIs PySem.F.entry_dict_eq ?_ (PySem.F.args_dict_eq_2 _ _)
  have pairs : ∀ nm, wpAny (model prog w) A.in1 (Builtin.Dict.samePairs nm a b) (fun c t => Q (.bool c) t) E s := fun nm => pairs_same na nb hk da db hl h
  show wpAny _ A.in1 (Builtin.Dict.dictSlotArgs "__eq__" { pos := [.ref a, .ref b] } >>= _) _ _ s
  unfold Builtin.Dict.dictSlotArgs
  refine wpAny_bind (wpAny_bind (wpAny_notOrdered_dict da.typeIs ?_))
  refine wpAny_pure (a := (Value.ref a, Value.ref b)) ?_
  refine wpAny_bind (wpAny_isInstance (T := "dict") db.typeIs PySem.F.sub_dict_dict ?_)
  simp only [Bool.not_true, if_false, Bool.false_eq_true]
  refine wpAny_bind (wpAny_pure ?_)
  refine wpAny_bind (wpAny_pure ?_)
  exact wpAny_bind (wpAny_mono (pairs _) (fun c t q => wpAny_pure ⟨.bool (c == true), rfl, nofun, by simpa using q⟩) fun _ _ z => z)
end
open L2 G D L S
/-- what a row of keys with data says of a key -/
def atD : List (List Key) → List Dat → List Key → Option Dat
  | k :: ks, d :: ds, q => if k = q then some d else atD ks ds q
  | _, _, _ => none
/-- each key of the one row is one of the other row, with equal data -/
def likeB (ls : List (List Key)) (es : List Dat) : List (List Key) → List Dat → Bool
  | k :: ks, d :: ds => match atD ls es k with
    | none => false
    | some e => PyData.eqv d.py e.py && likeB ls es ks ds
  | _, _ => true
/-- fit to be compared -/
structure Cm (d : Dat) : Prop where
  pu : d.pure = true
  la : d.py.canLay0 = true
  dp : d.py.depth ≤ 40
section
variable {X : Cx} {pins : List (Addr × Obj)} {σ : L2.St} {H : Hp} {s : Shared}
theorem at_of {K : PySem.W.Frag} : ∀ {us : List (List Key × V)} {ys : List (List Key × Addr × Value)} {es : List Dat}, KT H us ys → RepAll K H (us.map (·.2)) es → ∀ q,
    (atKey ys q = none ∧ atD (us.map (·.1)) es q = none) ∨ ∃ p e v, atKey ys q = some p ∧ atD (us.map (·.1)) es q = some e ∧ RelV v p.2 ∧ Rep K H v e ∧ e ∈ es := by
  intro us ys es h
  induction h generalizing es with
  | nil => intro _ q; exact .inl ⟨rfl, rfl⟩
  | @cons u y us ys a t ih =>
    intro r q
    cases es with
    | nil => cases (show (u :: us).map (·.2) = [] from r)
    | cons e es =>
      obtain ⟨v, vs, ev, hv, hr⟩ := r
      rw [List.map_cons] at ev
      injection ev with e1 e2
      by_cases z : y.1 = q
      · refine .inr ⟨y.2, e, v, ?_, ?_, ?_, hv, List.mem_cons_self⟩
        · simp [atKey, z]
        · rw [List.map_cons]
          show (if u.1 = q then some e else _) = _
          rw [if_pos (by rw [a.1, z])]
        · rw [← e1]
          exact a.2.2
      · have s1 : atKey (y :: ys) q = atKey ys q := by simp [atKey, z]
        have s2 : atD ((u :: us).map (·.1)) (e :: es) q = atD (us.map (·.1)) es q := by
          rw [List.map_cons]
          show (if u.1 = q then some e else _) = _
          rw [if_neg (by rw [a.1]; exact z)]
        rw [s1, s2]
        rcases ih (es := es) (by rw [e2]; exact hr) q with h | ⟨p, e', v', h1, h2, h3, h4, h5⟩
        · exact .inl h
        · exact .inr ⟨p, e', v', h1, h2, h3, h4, List.mem_cons_of_mem _ h5⟩
theorem like_of (I : Inv X pins σ H s) {A : Around} (hu : A.units + 40 < cLine) {us : List (List Key × V)} {ys : List (List Key × Addr × Value)} {es : List Dat} (rb : KT H us ys) (he : RepAll X.K H (us.map (·.2)) es) (ge : ∀ e ∈ es, Cm e) :
    ∀ {kvs : List (List Key × V)} {xs : List (List Key × Addr × Value)} {ds : List Dat}, KT H kvs xs → RepAll X.K H (kvs.map (·.2)) ds → (∀ d ∈ ds, Cm d) → Like A s ys xs (likeB (us.map (·.1)) es (kvs.map (·.1)) ds) := by
  intro kvs xs ds h
  induction h generalizing ds with
  | nil =>
    intro r _
    cases ds with
    | nil => exact .nil
    | cons d ds =>
      obtain ⟨v, vs, e, _⟩ := r
      cases e
  | @cons k x kvs xs a t ih =>
    intro r g
    cases ds with
    | nil => cases (show (k :: kvs).map (·.2) = [] from r)
    | cons d ds =>
      obtain ⟨v, vs, ev, hv, hr⟩ := r
      rw [List.map_cons] at ev
      injection ev with e1 e2
      have rest := ih (ds := ds) (by rw [e2]; exact hr) fun d hd => g d (List.mem_cons_of_mem _ hd)
      have gd := g d List.mem_cons_self
      rw [List.map_cons]
      show Like A s ys (x :: xs) (match atD (us.map (·.1)) es k.1 with | none => false | some e => PyData.eqv d.py e.py && likeB (us.map (·.1)) es (kvs.map (·.1)) ds)
      rw [a.1]
      rcases at_of rb he x.1 with ⟨h1, h2⟩ | ⟨p, e, u, h1, h2, h3, h4, h5⟩
      · rw [h2]
        exact .miss h1
      · rw [h2]
        have ge' := ge e h5
        obtain ⟨as, r1, _⟩ := Rep.reads I d v x.2.2 hv gd.pu (by rw [← e1]; exact a.2.2)
        obtain ⟨bs, r2, _⟩ := Rep.reads I e u p.2 h4 ge'.pu h3
        refine .hit h1 (SeqAt.eqAt_reads d.py e.py A s x.2.2 p.2 as bs r1 r2 gd.la ge'.la ?_) rest
        have := gd.dp
        have := ge'.dp
        omega
def rEqDT (K : PySem.W.Frag) : R2 := fun x y H Q => ∃ (a b : Addr) (kvs us : List (List Key × V)) (ds es : List Dat), x = .ref a ∧ y = .ref b ∧ H a = some (.dT kvs) ∧ H b = some (.dT us) ∧ RepAll K H (kvs.map (·.2)) ds ∧ RepAll K H (us.map (·.2)) es ∧
  (∀ d ∈ ds, Cm d) ∧ (∀ e ∈ es, Cm e) ∧ Q (.bl (kvs.length == us.length && likeB (us.map (·.1)) es (kvs.map (·.1)) ds)) H
theorem op_eqDT (hu : X.A.units + 64 < cLine) : OpR X (compareOp .Eq) (rEqDT X.K) := by
  intro pins s σ H x y v u Q I rx ry h
  obtain ⟨a, b, kvs, us, ds, es, rfl, rfl, ha, hb, hd, he, gd, ge, q⟩ := h
  cases (show v = Value.ref a from rx)
  cases (show u = Value.ref b from ry)
  obtain ⟨_, na, xs, ka, da⟩ := dt_rd I.hok (.inl ha)
  obtain ⟨_, nb, ys, kb, db⟩ := dt_rd I.hok (.inl hb)
  have l1 : xs.length = kvs.length := (Paired.length ka).symm
  have l2 : ys.length = us.length := (Paired.length kb).symm
  have hin : X.A.in1.units + 40 < cLine := by
    simp only [Around.in1]
    omega
  refine dicts_eq na nb (by omega) (show X.A.in1.units < cLine by omega) da db (fun _ => like_of I hin kb he ge ka hd gd) ?_
  rw [l1, l2]
  exact ⟨.bl _, H, I, rfl, q⟩
end
end De

set_option Elab.async false
set_option linter.all false
set_option maxRecDepth 100000
set_option maxHeartbeats 4000000
/-! Any datum in a row of texts. -/
namespace De
open PySem PySem.Spec PyProof.Rows L2 G D L S Qe
open PySem.SeqAt
/-- a datum is one of these texts -/
def oneOf (xs : List Str) : Dat → Bool
  | .str x => decide (x ∈ xs)
  | _ => false
theorem any_scal (xs : List Str) (d : Dat) : (xs.any fun t => scalEq (.str t) d) = oneOf xs d := by
  cases d with
  | str x =>
    show (xs.any fun t => t == x) = decide (x ∈ xs)
    induction xs with
    | nil => simp
    | cons y ys ih =>
      rw [List.any_cons, ih]
      by_cases h : y = x
      · subst h; simp
      · have : ¬ x = y := fun z => h z.symm
        simp [h, this]
  | _ => simp [scalEq, oneOf]
/-- what a value says of a datum, if it is a text -/
def saysOf (d : Dat) : Value → Bool
  | .str t _ => scalEq (.str t) d
  | _ => false
theorem strs_any {d : Dat} : ∀ {xs : List Str} {its : List Value}, Vals (xs.map V.str) its → its.any (saysOf d) = xs.any fun t => scalEq (.str t) d
  | [], _, h => by cases h; rfl
  | x :: xs, _, h => by
    cases h with
    | cons r t =>
      obtain ⟨k, rfl⟩ := (show ∃ k, _ = Value.str x k from r)
      rw [List.any_cons, List.any_cons, strs_any t]
      rfl
section
variable {X : Cx} {pins : List (Addr × Obj)} {σ : L2.St} {H : Hp} {s : Shared}
theorem strs_eqAt (I : Inv X pins σ H s) {A : Around} (hu : A.units < cLine) {d : Dat} {v : V} {u : Value} (h : Rep X.K H v d) (hn : d.noObj = true) (r : RelV v u) :
    ∀ {xs : List Str} {its : List Value}, Vals (xs.map V.str) its → ∀ w ∈ its, EqAt A s w u (saysOf d w)
  | [], _, q, w, hw => by cases q; cases hw
  | x :: xs, _, q, w, hw => by
    cases q with
    | cons rx t =>
      obtain ⟨k, rfl⟩ := (show ∃ k, _ = Value.str x k from rx)
      rcases List.mem_cons.mp hw with rfl | hw
      · exact eqAt_str I hu x k h hn r
      · exact strs_eqAt I hu h hn r t w hw
/-- x in ys, ys texts in a list or a tuple -/
def rInS (K : PySem.W.Frag) (neg : Bool) : R2 := fun x y H Q => ∃ (p : Addr) (xs : List Str) (d : Dat), y = .ref p ∧ (SqL K H p (xs.map V.str) ∨ SqT K H p (xs.map V.str)) ∧ Rep K H x d ∧ d.noObj = true ∧ Q (.bl (if neg then !oneOf xs d else oneOf xs d)) H
theorem op_inS (hu : X.A.units + 1 < cLine) : OpR X (compareOp .In) (rInS X.K false) := by
  intro pins s σ H x y v u Q I rx ry h
  obtain ⟨p, xs, d, rfl, hq, hd, hn, q⟩ := h
  cases (show u = Value.ref p from ry)
  have hin : X.A.in1.units < cLine := by simp only [Around.in1]; omega
  rcases hq with hq | hq
  · obtain ⟨its, r, pl, _⟩ := I.list hq
    refine in_listAt (saysOf d) pl.isList (fun w hw => strs_eqAt I hin hd hn rx r w (by simpa using hw)) ⟨.bl _, H, I, rfl, ?_⟩
    rw [show its.toArray.any (saysOf d) = its.any (saysOf d) by simp, strs_any r, any_scal]
    exact q
  · obtain ⟨its, r, pl, _⟩ := I.tuple hq
    refine in_tupleAt (saysOf d) pl (fun w hw => strs_eqAt I hin hd hn rx r w (by simpa using hw)) ⟨.bl _, H, I, rfl, ?_⟩
    rw [show its.toArray.any (saysOf d) = its.any (saysOf d) by simp, strs_any r, any_scal]
    exact q
theorem op_notInS (hu : X.A.units + 1 < cLine) : OpR X (compareOp .NotIn) (rInS X.K true) := by
  intro pins s σ H x y v u Q I rx ry h
  obtain ⟨p, xs, d, rfl, hq, hd, hn, q⟩ := h
  cases (show u = Value.ref p from ry)
  have hin : X.A.in1.units < cLine := by simp only [Around.in1]; omega
  rcases hq with hq | hq
  · obtain ⟨its, r, pl, _⟩ := I.list hq
    refine notIn_listAt (saysOf d) pl.isList (fun w hw => strs_eqAt I hin hd hn rx r w (by simpa using hw)) ⟨.bl _, H, I, rfl, ?_⟩
    rw [show its.toArray.any (saysOf d) = its.any (saysOf d) by simp, strs_any r, any_scal]
    exact q
  · obtain ⟨its, r, pl, _⟩ := I.tuple hq
    refine notIn_tupleAt (saysOf d) pl (fun w hw => strs_eqAt I hin hd hn rx r w (by simpa using hw)) ⟨.bl _, H, I, rfl, ?_⟩
    rw [show its.toArray.any (saysOf d) = its.any (saysOf d) by simp, strs_any r, any_scal]
    exact q
theorem op_inSK {K : PySem.W.Frag} (e : X.K = K) (hu : X.A.units + 1 < cLine) : OpR X (compareOp .In) (rInS K false) := e ▸ op_inS hu
theorem op_notInSK {K : PySem.W.Frag} (e : X.K = K) (hu : X.A.units + 1 < cLine) : OpR X (compareOp .NotIn) (rInS K true) := e ▸ op_notInS hu
end
end De

set_option Elab.async false
set_option linter.all false
set_option maxRecDepth 100000
set_option maxHeartbeats 4000000
/-! Errors of one's own that keep a field: made, raised, caught, asked. -/
namespace Er
open PySem PySem.Spec PyProof.Rows L2 G D L S
/-- what the written part says of an error's class at C, its __init__ at fI, its field f -/
structure ErC (K : PySem.W.Frag) (C fI : Addr) (f : Str) : Prop where
  ox : OexC K C
  xf : XfC K C
  iC : PySem.W.findIn K (.ref C) "__init__" = some (some (.ref fI))
  tI : PySem.W.typeIn K (.ref fI) = some (.type "function")
  nof : PySem.W.findIn K (.ref C) f = some none
/-- its __init__: the one field is set -/
def spErr (K : PySem.W.Frag) (C : Addr) (f : Str) : Sp := fun vs H Q _ => ∃ (a : Addr) (v : V), vs = [.ref a, v] ∧ H a = some (exo a C none) ∧
  ∀ dx, H dx = none → dx ≠ a → Q .non (upd (upd H dx (exd dx [(f, v)])) a (exo a C (some dx)))
section
variable {K : PySem.W.Frag} {C : Addr} {f : Str}
/-- what the making of such an error leaves to be shown -/
theorem mk_read {H1 : Hp} {Q : XK} {v : V} (h : ∀ (d : Addr) (H' : Hp), H1 d = none → Same H1 H' → H' d = some (.xd [(f, v)]) → Q (.ref C) (some d) H') :
    ([v] : List V).length ≤ 1000 ∧ ∀ a, H1 a = none → spErr K C f (.ref a :: ([v] ++ [])) (upd H1 a (exo a C none)) (fun u H2 => u = .non ∧ ∃ (d : Addr) (fs : List (Str × V)), H2 a = some (exo a C (some d)) ∧ H2 d = some (exd d fs) ∧ H1 d = none ∧
      Q (.ref C) (some d) (upd (del H2 a) d (.xd fs))) (fun _ _ _ => False) := by
  refine ⟨by show 1 ≤ 1000; decide, fun a ha => ⟨a, v, rfl, upd_same, fun dx hdx ne => ⟨rfl, dx, [(f, v)], upd_same, by rw [upd_ne ne, upd_same], ?_, ?_⟩⟩⟩
  · rw [upd_ne ne] at hdx
    exact hdx
  · have h1 : H1 dx = none := by
      rw [upd_ne ne] at hdx
      exact hdx
    refine h dx _ h1 (fun y o e => ?_) upd_same
    have n1 : y ≠ dx := ne_of_none e h1
    have n2 : y ≠ a := ne_of_none e ha
    rw [upd_ne n1, del_ne n2, upd_ne n2, upd_ne n1, upd_ne n2]
    exact e
end
/-- what isinstance must know of an error's class -/
structure ErI (K : PySem.W.Frag) (D : Addr) : Prop where
  hc : (PySem.W.clsIn K D).isSome = true
  hg : PySem.W.findIn K (.ref D) "__getattribute__" = some (some (.builtin "BaseException.__getattribute__"))
  hk : PySem.W.findIn K (.ref D) "__getattr__" = some none
  hs : PySem.W.subIn K (.ref D) (.type "BaseException") = some true
  ha : PySem.W.findIn K (.ref D) "__class__" = some (some (.builtin "object.__class__"))
  hn : PySem.W.specialIn K (.builtin "object.__class__") "__get__" = some (some (.builtin "getset_descriptor.__get__"))
  ht : PySem.W.takesIn K (.builtin "object.__class__") = some true
  hm : PySem.W.mroIn K D (.type "object") = some true
/-- isinstance(e, c), e the error that the suite holds, with a dict of its own or none -/
def rIsEr (K : PySem.W.Frag) (D a : Addr) (d : Option Addr) : List V → Hp → VK → Prop := fun xs H Q => ∃ (c : V) (cv : Value) (b : Bool), xs = [.ref a, c] ∧ (∀ u, RelV c u → u = cv) ∧ PySem.W.kitOne K (.ref D) cv = some b ∧
  (∀ dd, d = some dd → ∃ fs, H dd = some (.xd fs)) ∧ Q (.bl b) H
theorem call_isEr {X : Cx} {a D : Addr} {oe : Obj} {d : Option Addr} {pn : List (Addr × Obj)} (C : ErI X.K D) (hz : Zc (.ref D) d oe) (hf : ∃ vs, oe.data = .fields vs) : CallR (X.suite a ((a, oe) :: pn)) (.builtin "isinstance") (rIsEr X.K D a d) := by
  intro pins s σ H xs us Q I r h
  obtain ⟨c, cv, b, rfl, hcv, e, hd, q⟩ := h
  cases r with
  | cons rx rr =>
    cases rr with
    | cons rt rr =>
      cases rr
      cases (show _ = Value.ref a from rx)
      obtain rfl := hcv _ rt
      obtain ⟨hget, _⟩ := I.pin (a, oe) (List.mem_append.mpr (.inl List.mem_cons_self))
      obtain ⟨vs, hv⟩ := hf
      have J : ∃ od, PySem.W.InstAt s.heap a oe D od := by
        cases d with
        | none =>
          refine ⟨none, hget, hz.1, by unfold PySem.W.notCls; rw [hv] <;> rfl, ?_⟩
          rw [hz.2]
          trivial
        | some dd =>
          obtain ⟨fs, hx⟩ := hd dd rfl
          obtain ⟨mA, hns, _⟩ := (show ObjOk X.prog X.w H s.heap dd (.xd fs) from I.hok dd _ hx)
          obtain ⟨od, ho, _⟩ := lookIn_ns hns
          exact ⟨some od, hget, hz.1, by unfold PySem.W.notCls; rw [hv] <;> rfl, by rw [hz.2]; exact ho⟩
      obtain ⟨od, J⟩ := J
      exact PySem.W.kia_one (PySem.W.kitx_exc C.hc C.hg C.hk C.hs C.ha C.hn C.ht C.hm) I.kIn J e (fun z => nomatch z) fun tk => ⟨.bl b, H, I.kept (t' := tk) fun _ _ z => z, rfl, q⟩
section
variable {X : Cx} {CX : CXT} {k : Nat} {f C : Addr} {fd : FuncData} {ps : List Str} {sp : Sp} {dvs : List V} {ds : List Value} {E : L2.St → XK} {x : Str} {p pos : Pos} {e : Expr} {es : List Expr} {t : TA}
/-- C(e, ..) within a try: what is raised is wished for at the slots -/
def tMakeS (C : Addr) (sp : Sp) (dvs : List V) (E : L2.St → XK) (t : TA) : TE := fun σ H Q => t σ H fun vs H1 => ∀ x dx, H1 x = none → H1 dx = none → dx ≠ x →
  sp (.ref x :: (vs ++ dvs)) (upd (upd H1 dx (.own x)) x (.ins C dx [])) (fun v H2 => v = .non ∧ Q (.ref x) H2) (E σ)
theorem pe_mkS (M : Mk X.K C f) (F : Fn X.prog X.w X.K X.mg X.base CX k f fd ps sp) (hc : Calm X.A) (hr : Room (k + 1) X.A) (hm : X.mg x = some (.ref C)) (hb : Binds X.K fd ps ds) (hd : Vals dvs ds)
    (hx : ∀ σ, PassesAt CX X σ (E σ)) (ha : PA X (e :: es) t) (hg : Gl X x := by rfl) (hdb : (x == ("__debug__" : Str)) = false := by decide)
    (he : starEach (e :: es) X.env = (false, eval e X.env) :: starEach es X.env := by rfl) (hpl : (backTo pos (starEach es X.env)).any (·.1) = false := by rfl) :
    PE X (.Call (.Name x p) (e :: es) [] pos) (tMakeS C sp dvs E t) := by
  constructor
  intro pins s σ H Q I h
  refine wpAny_Call_Name_kw (ld_glob I hg hm ?_ hdb)
  refine PySem.W.callWith_K (h₀ := X.base) I.ok.mod.kin M.kp (thn (ha.run pos pins s σ H _ I h) ?_) he hpl
  rintro us s1 ⟨vs, H1, I1, rv, q⟩
  refine ⟨I1.kIn, ?_⟩
  have f1 := I1.hok.fresh (Nat.le_succ s1.heap.objs.size)
  have f2 := I1.hok.fresh (Nat.le_refl s1.heap.objs.size)
  have q' := q (s1.heap.objs.size + 1) s1.heap.objs.size f1 f2 (Nat.ne_of_lt (Nat.lt_succ_self _))
  have J := Inv.made (C := C) I1
  have r2 : Vals (V.ref (s1.heap.objs.size + 1) :: (vs ++ dvs)) (Value.ref (s1.heap.objs.size + 1) :: (us ++ ds)) := .cons rfl (rv.append hd)
  have len : (Value.ref (s1.heap.objs.size + 1) :: us ++ ds).length = ps.length := (r2.length.symm).trans (F.len _ _ _ _ q')
  have cg : Calm (X.A.under (.builtin "type.__call__" ⟨.ref C :: us, []⟩)) := by
    first
      | exact hc
      | (show (X.A.under _).guards = _; simp [Around.under, Code.guards, Code.isGuard, guardIds, pushGuards, hc])
  have run := F.go _ X.stack _ _ ⟨Value.ref (s1.heap.objs.size + 1) :: us, []⟩ _ _ _ (E σ) cg (hr.make C us []) (J.env0.make C us []) (hb _ (Value.ref (s1.heap.objs.size + 1) :: us) J.kIn len) r2 q'
  refine wpAny_call (make_map (f := f) I1.kIn M.makes M.init (beq_iff_eq.mp M.fn) (codeAny_mono run ?_))
  rintro (er | fl) s' hq
  · exact hx σ pins _ _ er s' J hq
  · cases fl with
    | ret u =>
      obtain ⟨v, H', I3, rv3, rfl, q3⟩ := J.after hq
      exact ⟨rv3, ⟨V.ref (s1.heap.objs.size + 1), H', I3, rfl, q3⟩⟩
    | next => exact False.elim hq
    | brk => exact False.elim hq
    | cont => exact False.elim hq
end
end Er

set_option Elab.async false
set_option linter.all false
set_option maxRecDepth 100000
set_option maxHeartbeats 8000000
namespace K
open PySem PySem.Spec PyProof.Rows L2 G D L S C Sx Kx Ex Lt Qe De Er
open Fz hiding Fr
open C8 (pss_cut tCut)
open PySem.W (dataLt alike AllAlike Sortable)
/-- a rule of a gate -/
structure Rl where
  door : Str
  state : Int
  kind : Str
  later : Int
  keeps : Bool
  told : List Str
def Rl.dat (r : Rl) : Dat := .tup [.str r.door, .int r.state, .str r.kind, .int r.later, .bl r.keeps, .tup (r.told.map .str)]
/-- it is one of a gate with n states, doors ds, closet cs -/
structure Rl.Ok (n : Int) (ds cs : List Str) (r : Rl) : Prop where
  door : r.door ∈ ds
  s0 : 0 ≤ r.state
  s1 : r.state < n
  kind : r.kind ∈ cs ++ (["", "?"] : List Str)
  l0 : 0 ≤ r.later
  l1 : r.later < n
  told0 : r.kind = "" → r.keeps = false ∧ ∀ w ∈ r.told, w ∈ cs ++ (["+kept"] : List Str)
  told1 : ∀ w ∈ r.told, w ∈ cs ++ (["+kept", "+given"] : List Str)
  len : r.told.length ≤ 1000
/-- a number from 0 on, below n -/
def isBelow (n : Int) : Dat → Bool
  | .int i => decide (0 ≤ i) && decide (i < n)
  | _ => false
def spBelow (K : PySem.W.Frag) : Sp := fun vs H Q _ => ∃ (v : V) (d : Dat) (n : Int), vs = [v, .int n] ∧ Rep K H v d ∧ ∀ H', Same H H' → Q (.bl (isBelow n d)) H'
def kpNo : Dat → Bool
  | .bl b => !b
  | _ => false
def toldOk (cs : List Str) (k kp : Dat) : Dat → Bool
  | .tup ts => if k.isThe "" then kpNo kp && ts.all (oneOf (cs ++ (["+kept"] : List Str))) else ts.all (oneOf (cs ++ (["+kept", "+given"] : List Str)))
  | _ => false
/-- a rule, as the program looks at it -/
def isRuleD (n : Int) (ds cs : List Str) : Dat → Bool
  | .tup [d, s, k, l, kp, t] => oneOf ds d && (isBelow n s && (isBelow n l && (oneOf (cs ++ (["", "?"] : List Str)) k && (kp.isBl && toldOk cs k kp t))))
  | _ => false
theorem words_of {ws : List Str} : ∀ {ts : List Dat}, ts.all (oneOf ws) = true → ∃ us : List Str, ts = us.map .str ∧ ∀ u ∈ us, u ∈ ws
  | [], _ => ⟨[], rfl, fun _ h => (nomatch h)⟩
  | t :: ts, h => by
    rw [List.all_cons, Bool.and_eq_true] at h
    obtain ⟨us, e, hu⟩ := words_of h.2
    cases t with
    | str x =>
      refine ⟨x :: us, by rw [List.map_cons, ← e], fun u hx => ?_⟩
      rcases List.mem_cons.mp hx with rfl | hx
      · exact of_decide_eq_true h.1
      · exact hu u hx
    | _ => cases h.1
theorem ruleD_rl {n : Int} {ds cs : List Str} {d : Dat} (h : isRuleD n ds cs d = true) (hl : ∀ xs, d = .tup xs → ∀ ts, .tup ts ∈ xs → ts.length ≤ 1000) : ∃ r : Rl, d = r.dat ∧ r.Ok n ds cs := by
  unfold isRuleD at h
  split at h
  · rename_i e1 e2 e3 e4 e5 e6
    simp only [Bool.and_eq_true] at h
    obtain ⟨h1, h2, h3, h4, h5, h6⟩ := h
    obtain ⟨ts, rfl⟩ : ∃ ts, e6 = .tup ts := by
      cases e6 with
      | tup ts => exact ⟨ts, rfl⟩
      | _ => cases h6
    have ht := hl _ rfl ts (by simp)
    have h6 : (if e3.isThe "" then kpNo e5 && ts.all (oneOf (cs ++ (["+kept"] : List Str))) else ts.all (oneOf (cs ++ (["+kept", "+given"] : List Str)))) = true := h6
    cases e1 with
    | str a =>
      cases e2 with
      | int i =>
        cases e3 with
        | str b =>
          cases e4 with
          | int j =>
            cases e5 with
            | bl c =>
              unfold isBelow at h2 h3
              simp only [Bool.and_eq_true, decide_eq_true_eq] at h2 h3
              have h1 : a ∈ ds := of_decide_eq_true h1
              have h4 : b ∈ cs ++ (["", "?"] : List Str) := of_decide_eq_true h4
              by_cases hb : b = ""
              · have eb : (Dat.str b).isThe "" = true := by simp [Dat.isThe, hb]
                rw [if_pos eb, Bool.and_eq_true] at h6
                obtain ⟨us, rfl, hu⟩ := words_of h6.2
                have hc : c = false := by simpa [kpNo] using h6.1
                refine ⟨⟨a, i, b, j, c, us⟩, rfl, h1, h2.1, h2.2, h4, h3.1, h3.2, fun _ => ⟨hc, hu⟩, fun w hw => ?_, by rw [List.length_map] at ht; exact ht⟩
                rcases List.mem_append.mp (hu w hw) with z | z
                · exact List.mem_append_left _ z
                · refine List.mem_append_right _ ?_
                  rw [List.mem_singleton] at z
                  rw [z]
                  exact List.mem_cons_self
              · have eb : ¬ (Dat.str b).isThe "" = true := by simp [Dat.isThe, hb]
                rw [if_neg eb] at h6
                obtain ⟨us, rfl, hu⟩ := words_of h6
                exact ⟨⟨a, i, b, j, c, us⟩, rfl, h1, h2.1, h2.2, h4, h3.1, h3.2, fun z => absurd z hb, hu, by rw [List.length_map] at ht; exact ht⟩
            | _ => cases h5
          | _ => cases h3
        | _ => cases h4
      | _ => cases h2
    | _ => cases h1
  · cases h
theorem words_all {ws : List Str} {us : List Str} (h : ∀ u ∈ us, u ∈ ws) : (us.map Dat.str).all (oneOf ws) = true := by
  rw [List.all_map, List.all_eq_true]
  exact fun u hu => decide_eq_true (h u hu)
theorem Rl.Ok.is {n : Int} {ds cs : List Str} {r : Rl} (ok : r.Ok n ds cs) : isRuleD n ds cs r.dat = true := by
  show (decide (r.door ∈ ds) && ((decide (0 ≤ r.state) && decide (r.state < n)) && ((decide (0 ≤ r.later) && decide (r.later < n)) && (decide (r.kind ∈ cs ++ (["", "?"] : List Str)) && (true &&
    (if (Dat.str r.kind).isThe "" then (!r.keeps) && (r.told.map Dat.str).all (oneOf (cs ++ (["+kept"] : List Str))) else (r.told.map Dat.str).all (oneOf (cs ++ (["+kept", "+given"] : List Str))))))))) = true
  rw [decide_eq_true ok.door, decide_eq_true ok.s0, decide_eq_true ok.s1, decide_eq_true ok.l0, decide_eq_true ok.l1, decide_eq_true ok.kind]
  by_cases hb : r.kind = ""
  · obtain ⟨h1, h2⟩ := ok.told0 hb
    rw [if_pos (by simp [Dat.isThe, hb]), h1, words_all h2]
    rfl
  · rw [if_neg (by simp [Dat.isThe, hb]), words_all ok.told1]
    rfl
/-- the class and its fields -/
structure GCls (K : PySem.W.Frag) (C : Addr) : Prop where
  cl : Cls K C
  n1 : NoAttr K C "_states"
  n2 : NoAttr K C "_doors"
  n3 : NoAttr K C "_closet"
  n4 : NoAttr K C "_rules"
/-- the first three fields of a gate -/
structure Self3 (C : Addr) (H : Hp) (x : Addr) (n : Int) (ds cs : List Str) : Prop where
  ex : ∃ dx fs d c, H x = some (.ins C dx fs) ∧ fs.lookup ("_states" : Str) = some (.int n) ∧ fs.lookup ("_doors" : Str) = some (.ref d) ∧ fs.lookup ("_closet" : Str) = some (.ref c) ∧
    H d = some (.lst (ds.map .str)) ∧ H c = some (.lst (cs.map .str)) ∧ ds.length ≤ 1000 ∧ cs.length ≤ 1000
theorem Self3.mono {C x : Addr} {H H' : Hp} {n : Int} {ds cs : List Str} (h : Self3 C H x n ds cs) (s : Same H H') : Self3 C H' x n ds cs := by
  obtain ⟨dx, fs, d, c, h1, h2, h3, h4, h5, h6, h7, h8⟩ := h.ex
  exact ⟨dx, fs, d, c, s _ _ h1, h2, h3, h4, s _ _ h5, s _ _ h6, h7, h8⟩
/-- nothing but plain data in it, none too long -/
structure Pl (d : Dat) : Prop where
  pu : d.pure = true
  wd : Wd d
theorem Pl.no {d : Dat} (h : Pl d) : d.noObj = true := by
  have := h.pu
  cases d <;> first | rfl | cases this
theorem Pl.all {ds : List Dat} (h : Pl (.tup ds)) : ∀ d ∈ ds, Pl d := by
  have p : pureAll ds = true := h.pu
  rw [pureAll_all] at p
  exact fun d hd => ⟨List.all_eq_true.mp p d hd, (wd_tup h.wd).2 d hd⟩
def spIsRule (K : PySem.W.Frag) (C : Addr) : Sp := fun vs H Q _ => ∃ (x : Addr) (v : V) (n : Int) (ds cs : List Str) (d : Dat), vs = [.ref x, v] ∧ Self3 C H x n ds cs ∧ Rep K H v d ∧ Pl d ∧
  ∀ H', Same H H' → Q (.bl (isRuleD n ds cs d)) H'
theorem isRule_six {n : Int} {ds cs : List Str} {xs : List Dat} (h : xs.length ≠ 6) : isRuleD n ds cs (.tup xs) = false := by
  unfold isRuleD
  split
  · rename_i e
    cases e
    exact absurd rfl h
  · rfl
section
variable {P : Program} {w : World} {K : PySem.W.Frag} {mg : Str → Option Value} {base : Heap}
abbrev s_is_below : Stmt := top 6
theorem sc_is_below : FnScope ["thing", "many"] ["thing", "many"] (defScope s_is_below) := ⟨rfl, rfl, rfl, by decide +kernel, rfl, by decide +kernel, by decide +kernel⟩
theorem ok_below {f : Addr} {fd : FuncData} (F : Fun K "is_below" "is_below" s_is_below f fd) (T : Bl mg)
    (D_is_integer : Def P w K mg base 2 "is_integer" ["thing"] (spB K (fun _ => True) isWhole)) : Fn P w K mg base CX0 3 f fd ["thing", "many"] (spBelow K) := by
  refine fn_calm F sc_is_below (fun vs H Q E h => ?_) (fun cdv A outer s H vs Q E hc hr h => ?_)
  · obtain ⟨v, d, n, rfl, _⟩ := h
    rfl
  · obtain ⟨v, d, n, rfl, hv, k⟩ := h
    refine ⟨_, (pss_one (ps_ret (pe_and (pe_def D_is_integer hc (hr.mono (by decide)) (pa_cons (pv 0) pa_nil)) (pe_one (pe_chain op_le op_lt pe_int (pv 0) (pv 1)))))), ?_⟩
    refine ⟨_, rfl, v, d, rfl, hv, trivial, fun H1 s1 => ⟨_, rfl, ?_⟩⟩
    have z := k H1 s1
    cases d with
    | int i =>
      refine iteT ?_
      obtain rfl : v = .int i := hv
      refine ⟨_, rfl, _, _, rfl, rfl, _, rfl, ?_⟩
      have z : Q (.bl (decide (0 ≤ i) && decide (i < n))) H1 := z
      refine ite2 (fun e => ?_) (fun e => ?_)
      · refine ⟨_, rfl, _, _, rfl, rfl, ?_⟩
        rw [show decide (0 ≤ i) = true from e, Bool.true_and] at z
        exact z
      · rw [show decide (0 ≤ i) = false by simpa using e, Bool.false_and] at z
        exact z
    | _ => exact iteF z
abbrev s_Gate__is_rule : Stmt := inClass (top 10) 13
theorem sc_Gate__is_rule : FnScope ["self", "thing", "door", "state", "kind", "later", "keeps", "told", "word"] ["self", "thing"] (defScope s_Gate__is_rule) := ⟨rfl, rfl, rfl, by decide +kernel, rfl, by decide +kernel, by decide +kernel⟩
theorem ok_is_rule {f C : Addr} {fd : FuncData} (F : Fun K "_is_rule" "Gate._is_rule" s_Gate__is_rule f fd) (T : Bl mg) (gc : GCls K C)
    (D_is_below : Def P w K mg base 3 "is_below" ["thing", "many"] (spBelow K)) : Fn P w K mg base CX0 4 f fd ["self", "thing"] (spIsRule K C) := by
  refine fn_calm F sc_Gate__is_rule (fun vs H Q E h => ?_) (fun cdv A outer s H vs Q E hc hr h => ?_)
  · obtain ⟨x, v, n, ds, cs, d, rfl, _⟩ := h
    rfl
  · obtain ⟨x, v, n, ds, cs, d, rfl, hx, hv, pl, k⟩ := h
    have hu := hu_of hr
    refine ⟨_, (pss_cons (ps_if (PW.pt (pw_or (pt_not (pt_val (pe_callB call_isi (by rfl) T.isinstanceN (by decide +kernel) (pa_cons (pv 1) (pa_cons (pe_bltn (v := .ty "tuple") (by rfl) T.tupleN (by decide +kernel) rfl) pa_nil))))) (pw_or1 (pt_cmpR op_ne (pe_callB call_len_seq (by rfl) T.lenN (by decide +kernel) (pa_cons (pv 1) pa_nil)) pe_int (nomark _)))))
  (pss_one (ps_ret pe_bl))
  pss_nil)
 (pss_cons (ps_asg (pv 1) (pg_tup (by rfl) (pgs_cons (pg_name (i := 2) sc_Gate__is_rule.nd rfl (Or.inl rfl)) (pgs_cons (pg_name (i := 3) sc_Gate__is_rule.nd rfl (Or.inl rfl)) (pgs_cons (pg_name (i := 4) sc_Gate__is_rule.nd rfl (Or.inl rfl)) (pgs_cons (pg_name (i := 5) sc_Gate__is_rule.nd rfl (Or.inl rfl)) (pgs_cons (pg_name (i := 6) sc_Gate__is_rule.nd rfl (Or.inl rfl)) (pgs_cons (pg_name (i := 7) sc_Gate__is_rule.nd rfl (Or.inl rfl)) pgs_nil))))))))
 (pss_cons (ps_if (PW.pt (pw_or (pt_cmpR (op_notInS hu) (pv 2) (pe_fld (pv 0) rfl) (by rfl)) (pw_or (pt_not (pt_val (pe_def D_is_below hc (hr.mono (by decide)) (pa_cons (pv 3) (pa_cons (pe_fld (pv 0) rfl) pa_nil))))) (pw_or1 (pt_not (pt_val (pe_def D_is_below hc (hr.mono (by decide)) (pa_cons (pv 5) (pa_cons (pe_fld (pv 0) rfl) pa_nil)))))))))
  (pss_one (ps_ret pe_bl))
  pss_nil)
 (pss_cons (ps_if (PW.pt (pw_or (pt_cmpR (op_notInS hu) (pv 4) (pe_op op_cat (pe_fld (pv 0) rfl) (pe_lst (pa_cons pe_str (pa_cons pe_str pa_nil)))) (by rfl)) (pw_or (pt_not (pt_val (pe_callB call_isi (by rfl) T.isinstanceN (by decide +kernel) (pa_cons (pv 6) (pa_cons (pe_bltn (v := .ty "bool") (by rfl) T.boolN (by decide +kernel) rfl) pa_nil))))) (pw_or1 (pt_not (pt_val (pe_callB call_isi (by rfl) T.isinstanceN (by decide +kernel) (pa_cons (pv 7) (pa_cons (pe_bltn (v := .ty "tuple") (by rfl) T.tupleN (by decide +kernel) rfl) pa_nil)))))))))
  (pss_one (ps_ret pe_bl))
  pss_nil)
 (pss_cons (ps_if (pt_cmpR (op_eq_str hu) (pv 4) pe_str (nomark _))
  (pss_one (ps_ret (pe_and (pe_not (pv 6)) (pe_one (pe_callB (cr_all rfl) (by rfl) T.allN (by decide +kernel) (pa_cons (pe_lc (own := [("word", 8)]) (g := gName 8) (tt := tYes) rfl sc_Gate__is_rule.nd (pi_tup (pv 7)) (blkOk_by (N := ["self", "thing", "door", "state", "kind", "later", "keeps", "told", "word"]) (sc := defScope s_Gate__is_rule) (by decide +kernel)) (fun _ _ _ _ _ => (pg_name (i := 8) sc_Gate__is_rule.nd rfl (Or.inl rfl))) (fun _ _ _ _ _ => pts_nil) (fun _ _ _ _ _ => (pe_cmpR (op_inSK (K := K) rfl hu) (pv 8) (pe_op op_cat (pe_fldK (K := K) rfl (pv 0) rfl) (pe_lst (pa_cons pe_str pa_nil))) (by rfl)))) pa_nil))))))
  pss_nil)
 (pss_one (ps_ret (pe_callB (cr_all rfl) (by rfl) T.allN (by decide +kernel) (pa_cons (pe_lc (own := [("word", 8)]) (g := gName 8) (tt := tYes) rfl sc_Gate__is_rule.nd (pi_tup (pv 7)) (blkOk_by (N := ["self", "thing", "door", "state", "kind", "later", "keeps", "told", "word"]) (sc := defScope s_Gate__is_rule) (by decide +kernel)) (fun _ _ _ _ _ => (pg_name (i := 8) sc_Gate__is_rule.nd rfl (Or.inl rfl))) (fun _ _ _ _ _ => pts_nil) (fun _ _ _ _ _ => (pe_cmpR (op_inSK (K := K) rfl hu) (pv 8) (pe_op op_cat (pe_fldK (K := K) rfl (pv 0) rfl) (pe_lst (pa_cons pe_str (pa_cons pe_str pa_nil)))) (by rfl)))) pa_nil))))))))), ?_⟩
    obtain ⟨dx, fs, da, ca, h1, h2, h3, h4, h5, h6, h7, h8⟩ := hx.ex
    refine ⟨_, rfl, _, _, _, _, _, rfl, .ty "tuple", hv.ty, kit_tup hv, _, rfl, ?_⟩
    cases d with
    | tup xs =>
      refine iteF ?_
      obtain ⟨p, vs, rfl, hp, hxs⟩ := hv
      have lx := hxs.length
      refine ⟨_, rfl, p, _, rfl, .inr (SqT.of hp), rfl, _, rfl, ?_⟩
      have e6 : ∀ b : Bool, b = (!decide (V.int (vs.length : Nat) = V.int 6)) → b = !decide (xs.length = 6) := fun b h => by
        rw [h, lx]
        by_cases q : xs.length = 6
        · simp [q]
        · have : ¬ ((xs.length : Nat) : Int) = 6 := fun z => q (by omega)
          simp [q, this]
      refine ite2 (fun e => ?_) (fun e => ?_)
      · have z := k H (.refl H)
        rw [isRule_six (fun q => by
          have := e6 _ rfl
          rw [e, q] at this
          cases this)] at z
        exact z
      have l6 : xs.length = 6 := Classical.byContradiction fun q => e (by rw [e6 _ rfl, decide_eq_false q]; rfl)
      have all := pl.all
      match xs, l6, hxs with
      | [d1, d2, d3, d4, d5, d6], _, ⟨v1, _, e1, r1, v2, _, e2, r2, v3, _, e3, r3, v4, _, e4, r4, v5, _, e5, r5, v6, _, e7, r6, e8⟩ =>
        subst e1 e2 e3 e4 e5 e7 e8
        have no : ∀ d ∈ [d1, d2, d3, d4, d5, d6], d.noObj = true := fun d hd => (all d hd).no
        refine ⟨_, rfl, p, _, rfl, SqT.of hp, rfl, _, _, rfl, _, _, rfl, _, _, rfl, _, _, rfl, _, _, rfl, _, _, rfl, rfl, ?_⟩
        -- what a false answer wants
        have nay : ∀ H', Same H H' → isRuleD n ds cs (.tup [d1, d2, d3, d4, d5, d6]) = false → Q (.bl false) H' := fun H' s e => by
          have z := k H' s
          rw [e] at z
          exact z
        refine ⟨_, rfl, _, rfl, x, C, dx, _, _, rfl, h1, gc.cl, gc.n2, h3, da, ds, d1, rfl, .inl (SqL.of h5), r1, no _ (by simp), _, rfl, ?_⟩
        refine ite2 (fun q1 => ?_) (fun q1 => ?_)
        · refine iteT (nay H (.refl H) ?_)
          have : oneOf ds d1 = false := by simpa using q1
          simp [isRuleD, this]
        have k1 : oneOf ds d1 = true := by simpa using q1
        refine ⟨_, rfl, _, rfl, x, C, dx, _, _, rfl, h1, gc.cl, gc.n1, h2, v2, d2, n, rfl, r2, fun H1 s1 => ⟨_, rfl, ?_⟩⟩
        cases k2 : isBelow n d2 with
        | false =>
          refine iteT (iteT (nay H1 s1 ?_))
          simp [isRuleD, k2]
        | true =>
        refine iteF ?_
        refine ⟨_, rfl, _, rfl, x, C, dx, _, _, rfl, s1 _ _ h1, gc.cl, gc.n1, h2, v4, d4, n, rfl, Rep.mono s1 _ r4, fun H2 s2 => ⟨_, rfl, ?_⟩⟩
        have s12 := s1.trans s2
        cases k3 : isBelow n d4 with
        | false =>
          refine iteT (nay H2 s12 ?_)
          simp [isRuleD, k3]
        | true =>
        refine iteF ?_
        -- the kind
        refine ⟨_, rfl, _, rfl, x, C, dx, _, _, rfl, s12 _ _ h1, gc.cl, gc.n3, h4, by decide, fun p3 hp3 => ?_⟩
        have s3 := s12.trans (same_upd (o := .lst [V.str "", V.str "?"]) hp3)
        refine ⟨ca, p3, _, _, rfl, rfl, s3 _ _ h6, upd_same, ?_, fun p4 hp4 => ?_⟩
        · rw [List.length_map]
          exact Nat.le_trans (Nat.add_le_add_right h8 2) (by decide)
        have s4 := s3.trans (same_upd (o := .lst (cs.map .str ++ [V.str "", V.str "?"])) hp4)
        have e4 : (cs.map V.str ++ [V.str "", V.str "?"]) = (cs ++ (["", "?"] : List Str)).map V.str := by rw [List.map_append]; rfl
        refine ⟨p4, cs ++ (["", "?"] : List Str), d3, rfl, .inl (SqL.of (by rw [upd_same, e4])), Rep.mono s4 _ r3, no _ (by simp), _, rfl, ?_⟩
        refine ite2 (fun q4 => ?_) (fun q4 => ?_)
        · refine iteT (nay _ s4 ?_)
          have : oneOf (cs ++ (["", "?"] : List Str)) d3 = false := by simpa using q4
          simp [isRuleD, this]
        have k4 : oneOf (cs ++ (["", "?"] : List Str)) d3 = true := by simpa using q4
        generalize upd (upd H2 p3 (.lst [V.str "", V.str "?"])) p4 (.lst (cs.map V.str ++ [V.str "", V.str "?"])) = H4 at s4
        refine ⟨_, rfl, _, _, _, _, _, rfl, .ty "bool", (Rep.mono s4 _ r5).ty, kit_bl (Rep.mono s4 _ r5), _, rfl, ?_⟩
        cases k5 : d5.isBl with
        | false =>
          refine iteT (iteT (nay _ s4 ?_))
          simp [isRuleD, k5]
        | true =>
        refine iteF ?_
        refine ⟨_, rfl, _, _, _, _, _, rfl, .ty "tuple", (Rep.mono s4 _ r6).ty, kit_tup (Rep.mono s4 _ r6), _, rfl, ?_⟩
        cases d6 with
        | tup ts =>
          refine iteF ?_
          obtain ⟨q, us, rfl, hq, hus⟩ := r6
          have wl := wd_tup (all (.tup ts) (by simp)).wd
          have pts := (all (.tup ts) (by simp)).all
          have lts : us.length < sizeLine := by
            rw [hus.length]
            exact Nat.lt_of_le_of_lt wl.1 (by decide)
          obtain ⟨c5, rfl⟩ : ∃ b, d5 = .bl b := by
            cases d5 with
            | bl b => exact ⟨b, rfl⟩
            | _ => cases k5
          obtain rfl : v5 = .bl c5 := r5
          have good : isRuleD n ds cs (.tup [d1, d2, d3, d4, .bl c5, .tup ts]) = toldOk cs d3 (.bl c5) (.tup ts) := by
            simp [isRuleD, k1, k2, k3, k4, Dat.isBl]
          rw [good] at k
          refine ⟨_, rfl, d3, "", Rep.mono s4 _ r3, no _ (by simp), rfl, _, rfl, ?_⟩
          -- the words
          have words : ∀ (zs : List Str) (H5 : Hp) (ws : List V), zs.length ≤ 2 → ws = zs.map V.str → Same H H5 → (∀ H', Same H5 H' → Q (.bl (ts.all (oneOf (cs ++ zs)))) H') → True := fun _ _ _ _ _ _ _ => trivial
          refine ite2 (fun ek => ?_) (fun ek => ?_)
          · have ek : d3.isThe "" = true := ek
            refine ⟨_, rfl, _, rfl, _, rfl, ?_⟩
            have kk : ∀ H', Same H H' → Q (.bl (!c5 && ts.all (oneOf (cs ++ (["+kept"] : List Str))))) H' := fun H' s => by
              have z := k H' s
              unfold toldOk at z
              simp only [ek, if_true, kpNo] at z
              exact z
            refine ite2 (fun e5 => ?_) (fun e5 => ?_)
            · have c0 : c5 = false := by simpa using e5
              subst c0
              refine ⟨_, rfl, q, rfl, ⟨_, SqT.of (s4 _ _ hq)⟩, fun D hD => lc_map (walk_tup (xs := us)) ts (fun w => .bl (oneOf (cs ++ (["+kept"] : List Str)) w)) hus.length.symm lts hD (fun H' s => SqT.of (s _ _ (s4 _ _ hq))) ?_ ?_⟩
              · rintro i w0 y J1 J2 Kt hw hs ⟨rfl, hy⟩ kt
                obtain ⟨dy, hdy, ry⟩ := hus.get hy
                obtain rfl : dy = w0 := Option.some.inj (hdy.symm.trans hw)
                have u := s4.trans hs
                refine ⟨rfl, _, rfl, _, rfl, x, C, dx, _, _, rfl, u _ _ h1, gc.cl, gc.n3, h4, by decide, fun p5 hp5 => ?_⟩
                have u5 := u.trans (same_upd (o := .lst [V.str "+kept"]) hp5)
                refine ⟨ca, p5, _, _, rfl, rfl, u5 _ _ h6, upd_same, ?_, fun p6 hp6 => ?_⟩
                · rw [List.length_map]
                  exact Nat.le_trans (Nat.add_le_add_right h8 1) (by decide)
                have e6 : (cs.map V.str ++ [V.str "+kept"]) = (cs ++ (["+kept"] : List Str)).map V.str := by rw [List.map_append]; rfl
                have v6 := (same_upd (o := .lst [V.str "+kept"]) hp5).trans (same_upd (o := .lst (cs.map V.str ++ [V.str "+kept"])) hp6)
                exact ⟨p6, cs ++ (["+kept"] : List Str), dy, rfl, .inl (SqL.of (by rw [upd_same, e6])), Rep.mono (u.trans v6) _ ry, (pts dy (List.mem_of_getElem? hw)).no, kt _ v6⟩
              · intro J1 hs hd
                refine ⟨D, ts.map (oneOf (cs ++ (["+kept"] : List Str))), rfl, SqL.of (by rw [← map_bl]; exact hd), ?_⟩
                rw [all_map_id]
                exact kk J1 (s4.trans hs)
            · have c1 : c5 = true := by simpa using e5
              have z := kk H4 s4
              rw [c1] at z
              exact z
          · have ek : d3.isThe "" = false := by simpa using ek
            have kk : ∀ H', Same H H' → Q (.bl (ts.all (oneOf (cs ++ (["+kept", "+given"] : List Str))))) H' := fun H' s => by
              have z := k H' s
              unfold toldOk at z
              simp only [ek, if_false, Bool.false_eq_true] at z
              exact z
            refine ⟨_, rfl, q, rfl, ⟨_, SqT.of (s4 _ _ hq)⟩, fun D hD => lc_map (walk_tup (xs := us)) ts (fun w => .bl (oneOf (cs ++ (["+kept", "+given"] : List Str)) w)) hus.length.symm lts hD (fun H' s => SqT.of (s _ _ (s4 _ _ hq))) ?_ ?_⟩
            · rintro i w0 y J1 J2 Kt hw hs ⟨rfl, hy⟩ kt
              obtain ⟨dy, hdy, ry⟩ := hus.get hy
              obtain rfl : dy = w0 := Option.some.inj (hdy.symm.trans hw)
              have u := s4.trans hs
              refine ⟨rfl, _, rfl, _, rfl, x, C, dx, _, _, rfl, u _ _ h1, gc.cl, gc.n3, h4, by decide, fun p5 hp5 => ?_⟩
              have u5 := u.trans (same_upd (o := .lst [V.str "+kept", V.str "+given"]) hp5)
              refine ⟨ca, p5, _, _, rfl, rfl, u5 _ _ h6, upd_same, ?_, fun p6 hp6 => ?_⟩
              · rw [List.length_map]
                exact Nat.le_trans (Nat.add_le_add_right h8 2) (by decide)
              have e6 : (cs.map V.str ++ [V.str "+kept", V.str "+given"]) = (cs ++ (["+kept", "+given"] : List Str)).map V.str := by rw [List.map_append]; rfl
              have v6 := (same_upd (o := .lst [V.str "+kept", V.str "+given"]) hp5).trans (same_upd (o := .lst (cs.map V.str ++ [V.str "+kept", V.str "+given"])) hp6)
              exact ⟨p6, cs ++ (["+kept", "+given"] : List Str), dy, rfl, .inl (SqL.of (by rw [upd_same, e6])), Rep.mono (u.trans v6) _ ry, (pts dy (List.mem_of_getElem? hw)).no, kt _ v6⟩
            · intro J1 hs hd
              refine ⟨D, ts.map (oneOf (cs ++ (["+kept", "+given"] : List Str))), rfl, SqL.of (by rw [← map_bl]; exact hd), ?_⟩
              rw [all_map_id]
              exact kk J1 (s4.trans hs)
        | _ =>
          refine iteT (nay _ s4 ?_)
          simp [isRuleD, toldOk]
    | _ => exact iteT (iteT (k H (.refl H)))
end
end K

set_option Elab.async false
set_option linter.all false
set_option maxRecDepth 100000
set_option maxHeartbeats 4000000
/-! sorted(..) of a tuple. -/
namespace S
open PySem PySem.Spec PyProof.Rows L2 G D L
open PySem.W
section
variable {prog : Program} {w : World} {A : Around} {E : Value → Shared → Prop} {s : Shared}
theorem collect_tup {l : Addr} {vs : List Value} {o : Obj} {n : Nat} {Q : List Value → Shared → Prop} (ho : s.heap.get? l = some o) (hc : o.cls = .type "tuple") (hd : o.data = .seq vs.toArray n)
    (h : Q vs { s with heap := (s.heap.push (seqObj "list" #[] 0)).update s.heap.objs.size (Obj.mapSeq (· ++ vs.toArray)) }) (hz : vs.length ≤ sizeLine) :
    wpAny (model prog w) A (collect (.ref l)) Q E s := by
  unfold collect
  refine wpAny_bind (wpAny_runValue (codeAny_builtin entry_proto_collect' ?_))
  show wpAny _ _ (do again (.builtin "list.__iadd__" ⟨[← newList [], .ref l], []⟩)) _ _ s
  refine wpAny_bind (wpAny_newList (wpAny_pure ⟨Code.quiet_builtin _ (by decide +kernel), codeAny_builtin entry_list_iadd' ?_⟩))
  show wpAny _ _ (Builtin.List.listExtendWith (.ref s.heap.objs.size) (.ref l) (.ref s.heap.objs.size)) _ _ { s with heap := s.heap.push (seqObj "list" #[] 0) }
  unfold Builtin.List.listExtendWith
  have ho' : (s.heap.push (seqObj "list" #[] 0)).get? l = some o := Heap.get?_push_of_some _ ho
  refine wpAny_bind (wpAny_typeOf (T := "tuple") ⟨o, ho', hc⟩ ?_)
  have ht : (Value.type "tuple" == Value.type "tuple") = true := by rfl
  rw [if_pos (by rw [ht]; simp)]
  refine wpAny_bind (listItems_at ho' hd ?_)
  refine wpAny_bind (listItems_at (xs := #[]) (n := 0) (Heap.get?_push_size _ rfl) rfl ?_)
  rw [if_neg (by simp)]
  refine wpAny_bind (listUpdate_at (xs := #[]) (n := 0) (Heap.get?_push_size _ rfl) rfl ?_ (Nat.zero_le _) (by
    rw [Array.size_append, List.size_toArray]
    exact Nat.le_trans (Nat.le_of_eq (Nat.zero_add _)) (Nat.le_trans hz (Nat.le_succ _))))
  refine wpAny_pure ?_
  show wpAny (model prog w) A (do
      let oo ← load s.heap.objs.size
      match oo.data with
      | .seq its _ => pure its.toList
      | _ => unsupported "internal:collect") Q E { s with heap := (s.heap.push (seqObj "list" #[] 0)).update s.heap.objs.size (Obj.mapSeq (· ++ vs.toArray)) }
  refine wpAny_bind (wpAny_load (get?_update_seq (Heap.get?_push_size _ rfl) _) ?_)
  show wpAny _ _ (pure ((#[] : Array Value) ++ vs.toArray).toList) Q E _
  have e : ((#[] : Array Value) ++ vs.toArray).toList = vs := by simp
  rw [e]
  exact wpAny_pure h
variable {κ : Type} {R : Value → D.Dat → Prop}
theorem sorted_tup_of {l : Addr} {vs : List Value} {o : Obj} {n : Nat} {Q : Value → Shared → Prop} (ho : s.heap.get? l = some o) (hc : o.cls = .type "tuple") (hd : o.data = .seq vs.toArray n) (hL : vs.length ≤ sizeLine)
    (body : ∀ E' : Value → Shared → Prop, wpAny (model prog w) A.in1.in1 (Builtin.«list.sort» ⟨[.ref (s.heap.objs.size + 1)], []⟩)
      (fun f s' => f = .done (.ret .none) ∧ Q (.ref (s.heap.objs.size + 1)) s') E' { s with heap := copyHeap s.heap vs }) :
    wpAny (model prog w) A (call (.builtin "sorted") [.ref l] []) Q E s := by
  refine call_function_entry_kw kind_sorted plain_sorted entry_sorted (args_sorted1 _) ?_
  unfold Builtin.«sorted»
  refine wpAny_bind (m := checkCount "sorted" 1 1 _) (wpAny_pure ?_)
  refine wpAny_bind (collect_tup ho hc hd ?_ hL)
  refine wpAny_bind (wpAny_newList ?_ hL)
  have hsz : ((s.heap.push (seqObj "list" #[] 0)).update s.heap.objs.size (Obj.mapSeq (· ++ vs.toArray))).objs.size = s.heap.objs.size + 1 := by
    rw [Heap.size_update, size_push']
  show wpAny _ _ _ _ _ { s with heap := copyHeap s.heap vs }
  rw [hsz]
  refine wpAny_bind (wpAny_holding (wpAny_call_entry_kw PySem.F.slot_list_sort ⟨_, copyHeap_at s.heap vs, rfl⟩ PySem.F.entry_list_sort ?body (args_list_sort _)))
  case body =>
    show wpAny (model prog w) A.in1.in1 (Builtin.«list.sort» ⟨[.ref (s.heap.objs.size + 1)], []⟩) _ _ _
    refine wpAny_mono (body _) (fun f s' hf => ?_) fun _ _ e => e
    obtain ⟨rfl, hq⟩ := hf
    exact ⟨_, rfl, wpAny_pure ⟨_, rfl, hq⟩⟩
theorem sorted_tup_data {l : Addr} {vs : List Value} {ds : List D.Dat} {o : Obj} {n : Nat} {Q : Value → Shared → Prop} (ho : s.heap.get? l = some o) (hc : o.cls = .type "tuple") (hd : o.data = .seq vs.toArray n)
    (e : EachIs R vs ds) (er : EachIs (fun v b => ∃ as, Reads s.heap v (D.Dat.py b) as) vs ds) (hal : AllAlike (ds.map D.Dat.py)) (hk : Sortable (ds.map D.Dat.py)) (hL : ds.length ≤ sizeLine)
    (hu : ∀ b, b ∈ ds → A.units + 2 + (D.Dat.py b).depth < cLine)
    (h : ∀ out, out.length = ds.length → EachIs R out (ds.mergeSort (dataLe false D.Dat.py)) → Q (.ref (s.heap.objs.size + 1)) { s with heap := sortedAll s.heap vs (List.toArray out) }) :
    wpAny (model prog w) A (call (.builtin "sorted") [.ref l]) Q E s := by
  have er' : EachIs (fun v b => ∃ as, Reads (sortingHeap (copyHeap s.heap vs) (s.heap.objs.size + 1) vs) v (D.Dat.py b) as) vs ds := er.mono fun _ _ ⟨as, r⟩ => ⟨as, PyProof.Rows.Reads.keeps (fun _ _ => sorting_copy_old) r⟩
  have hL' : vs.length ≤ sizeLine := by rw [e.length]; exact hL
  have S := SortsAt.data (prog := prog) (w := w) (A := A.in1.in1) (s := { s with heap := sortingHeap (copyHeap s.heap vs) (s.heap.objs.size + 1) vs })
    (each_map (R := fun v d => ∃ as, Reads (sortingHeap (copyHeap s.heap vs) (s.heap.objs.size + 1) vs) v d as) D.Dat.py er') hal hk (bound_map hu)
  refine sorted_tup_of ho hc hd hL' fun _ => list_sort_vals (s := { s with heap := copyHeap s.heap vs }) (copyHeap_at s.heap vs) S hL' ⟨rfl, ?_⟩
  exact h _ (by rw [sortVals_length false rfl]; exact e.length) (sortVals_data false e er' hal)
end
section
variable {X : Cx}
/-- sorted(..) of a list or of a tuple -/
def rSortedA (K : PySem.W.Frag) : List V → Hp → VK → Prop := fun vs H Q => ∃ a xs ds, ∃ G : Hp, vs = [.ref a] ∧ (H a = some (.lst xs) ∨ H a = some (.tup xs)) ∧ Same G H ∧ RepAll K G xs ds ∧ Ord ds ∧
  ∀ p ys, H p = none → RepAll K G ys (sortD ds) → ys.length = xs.length → Q (.ref p) (upd H p (.lst ys))
theorem call_sortedA (hu : X.A.units + 64 < cLine) : CallR X (.builtin "sorted") (rSortedA X.K) := by
  intro pins s σ H vs us Q I r h
  obtain ⟨a, xs, ds, G, rfl, ha, sG, hr, od, q⟩ := h
  rcases ha with ha | ha
  · exact call_sorted hu pins s σ H _ us Q I r ⟨a, xs, ds, G, rfl, ha, sG, hr, od, q⟩
  · obtain ⟨u, rfl, ru⟩ := vals1 r
    cases (show u = Value.ref a from ru)
    obtain ⟨hz, its, rv, o, h1, h2, n, h3⟩ := (show ObjOk X.prog X.w H s.heap a (.tup xs) from I.hok a _ ha)
    have e1 := each_rep hr rv
    have e2 : EachIs (fun v d => ∃ as, Reads s.heap v (D.Dat.py d) as) its ds := by
      have : ∀ {ds : List D.Dat} {vs : List Value}, (∀ d ∈ ds, d.pure = true) → EachIs (fun v d => ∃ x, RelV x v ∧ Rep X.K G x d) vs ds → EachIs (fun v d => ∃ as, Reads s.heap v (D.Dat.py d) as) vs ds := by
        intro ds vs hp e
        induction e with
        | nil => exact .nil
        | @cons v d vs ds a _ ih =>
          obtain ⟨x, r, p⟩ := a
          obtain ⟨as, q, _⟩ := Rep.reads I d x v (Rep.mono sG d p) (hp d List.mem_cons_self) r
          exact .cons ⟨as, q⟩ (ih fun y hy => hp y (List.mem_cons_of_mem _ hy))
      exact this od.pu e1
    have hl : xs.length = ds.length := hr.length
    refine sorted_tup_data h1 h2 h3 e1 e2 od.al od.so (by rw [← hl]; exact hz) (fun d hd => ?_) fun out ol eo => ?_
    · have := od.dp d hd
      omega
    · obtain ⟨ys, ry, vy⟩ := rep_each eo
      have yl : ys.length = xs.length := by rw [vy.length, ol, hl]
      obtain ⟨ep, he⟩ := sortedAll_at s.heap its out.toArray
      refine ⟨.ref _, upd H (s.heap.objs.size + 1) (.lst ys), I.laid (t' := s.toks) (fun _ _ => sortedAll_old) (Nat.le_succ _) ?_, rfl, ?_⟩
      · exact ⟨by rw [yl]; exact hz, out, ep, vy, he⟩
      · exact q _ ys (I.hok.fresh (Nat.le_succ _)) ry yl
end
end S

set_option Elab.async false
set_option linter.all false
/-! A loop over what is a list or a tuple. -/
namespace S
open PySem PySem.Spec PyProof.Rows L2 G D L
theorem pi_or {X : Cx} {tg e : Expr} {i1 i2 : TI} (a : PI X tg e i1) (b : PI X tg e i2) : PI X tg e (fun σ H R => i1 σ H R ∨ i2 σ H R) := by
  refine ⟨fun pins s σ H R I h => ?_⟩
  rcases h with h | h
  · exact a.run pins s σ H R I h
  · exact b.run pins s σ H R I h
end S

set_option Elab.async false
set_option linter.all false
set_option maxRecDepth 100000
set_option maxHeartbeats 4000000
/-! What is sorted is the same, in whatever order it came. -/
namespace S
open PySem PySem.Spec PyProof.Rows L2 G D L
open PySem.W hiding Dat
open PySem.W (alike dataLt dataLe AllAlike Sortable)
theorem sorted_one {α : Type} {le : α → α → Prop} : ∀ {xs ys : List α}, xs.Perm ys → xs.Pairwise le → ys.Pairwise le → (∀ a ∈ xs, ∀ b ∈ xs, le a b → le b a → a = b) → xs = ys
  | [], ys, p, _, _, _ => (p.symm.eq_nil).symm
  | x :: xs, ys, p, hx, hy, an => by
    match ys, p, hy with
    | [], p, _ => cases p.eq_nil
    | y :: ys, p, hy =>
      have e : x = y := by
        have mx : x ∈ y :: ys := p.mem_iff.mp List.mem_cons_self
        have my : y ∈ x :: xs := p.mem_iff.mpr List.mem_cons_self
        rcases List.mem_cons.mp mx with h | h
        · exact h
        rcases List.mem_cons.mp my with h' | h'
        · exact h'.symm
        · exact an x List.mem_cons_self y my ((List.pairwise_cons.mp hx).1 y h') ((List.pairwise_cons.mp hy).1 x h)
      subst e
      rw [sorted_one (List.Perm.cons_inv p) (List.pairwise_cons.mp hx).2 (List.pairwise_cons.mp hy).2 fun a ha b hb => an a (List.mem_cons_of_mem _ ha) b (List.mem_cons_of_mem _ hb)]
theorem sortD_pairwise (ds : List Dat) : (sortD ds).Pairwise fun a b => dataLe false D.Dat.py a b = true := by
  have t := sortLe_total (listOrd itemOrd) false fun b : Dat => keyToks b.py
  exact List.pairwise_mergeSort (le := dataLe false D.Dat.py) (fun a b c h1 h2 => t.trans a b c h1 h2) (fun a b => Bool.or_eq_true_iff.mpr (t.total a b)) ds
theorem sortD_same {ds es : List Dat} (p : ds.Perm es) (inj : ∀ d ∈ ds, ∀ e ∈ ds, keyToks d.py = keyToks e.py → d = e) : sortD ds = sortD es := by
  have p1 : (sortD ds).Perm ds := List.mergeSort_perm _ _
  have p2 : (sortD es).Perm es := List.mergeSort_perm _ _
  refine sorted_one (p1.trans (p.trans p2.symm)) (sortD_pairwise ds) (sortD_pairwise es) fun a ha b hb h1 h2 => ?_
  refine inj a (p1.mem_iff.mp ha) b (p1.mem_iff.mp hb) ?_
  have h1 : (!(listOrd itemOrd).blt (keyToks b.py) (keyToks a.py)) = true := h1
  have h2 : (!(listOrd itemOrd).blt (keyToks a.py) (keyToks b.py)) = true := h2
  exact (listOrd itemOrd).total _ _ (by simpa using h2) (by simpa using h1)
theorem str_inj {x y : Str} (h : keyToks (D.Dat.str x).py = keyToks (D.Dat.str y).py) : x = y := by
  have h : [Sum.inr x.cps.toList] = ([Sum.inr y.cps.toList] : List (Int ⊕ List Nat)) := h
  injection h with h _
  injection h with h
  have := congrArg List.toArray h
  simp at this
  cases x; cases y
  simpa using this
/-- texts sorted, as texts -/
theorem sort_strs_same {us ws : List Str} (p : us.Perm ws) : sortD (us.map D.Dat.str) = sortD (ws.map D.Dat.str) := by
  refine sortD_same (p.map _) fun d hd e he h => ?_
  obtain ⟨x, _, rfl⟩ := List.mem_map.mp hd
  obtain ⟨y, _, rfl⟩ := List.mem_map.mp he
  rw [str_inj h]
end S

set_option Elab.async false
set_option linter.all false
set_option maxRecDepth 100000
set_option maxHeartbeats 4000000
/-! The values of a dict with tuple keys, as a list. -/
namespace De
open PySem PySem.Spec PyProof.Rows L2 G D L S
/-- the view d.values() at p -/
def valsO (p d : Addr) : HO := .ext fun h => h.IsValuesView p d
theorem valsO_ok {P : Program} {w : World} {H : Hp} {h : Heap} {p d : Addr} (e : h.get? p = some { cls := .type "dict_values", data := .fields #[.ref d] }) : ObjOk P w H h p (valsO p d) :=
  ⟨⟨_, e, rfl, rfl⟩, ⟨_, e⟩, fun _ _ ⟨o, ho, r⟩ k => ⟨o, k o ho, r⟩⟩
section
variable {X : Cx}
theorem call_vals {prog : Program} {w : World} {A : Around} {E : Value → Shared → Prop} {s : Shared} {d : Addr} {es : Array DictEntry} {ep : Nat} {Q : Value → Shared → Prop} (hd : (d == sysModules) = false) (hm : s.heap.DictRaw d es ep)
    (h : Q (.ref s.heap.objs.size) { s with heap := s.heap.push { cls := .type "dict_values", data := .fields #[.ref d] } }) : wpAny (model prog w) A (call (.builtin "dict.values") [.ref d]) Q E s := by
  refine wpAny_call_entry PySem.F.slot_dict_values hm.typeIs PySem.F.entry_dict_values ?_ (PySem.F.args_dict_values_1 _)
  show wpAny _ _ (Builtin.Dict.noArgs "values" ⟨[.ref d], []⟩ >>= _) _ _ s
  refine wpAny_bind ?_
  unfold Builtin.Dict.noArgs
  refine wpAny_bind (wpAny_notOrdered_dict hm.typeIs ?_)
  refine wpAny_pure (a := d) ?_
  unfold Builtin.Dict.showsAll
  rw [hd]
  refine wpAny_bind (wpAny_pure ?_)
  exact wpAny_bind (wpAny_newObj_type (wpAny_pure ⟨_, rfl, h⟩))
def rValsT : V → List V → Hp → VK → Prop := fun x xs H Q => ∃ (a : Addr) (kvs : List (List Key × V)), x = .ref a ∧ xs = [] ∧ H a = some (.dT kvs) ∧ ∀ p, H p = none → Q (.ref p) (upd H p (valsO p a))
theorem mt_valsT : MtR X "dict.values" rValsT := by
  intro pins s σ H x xs v us Q I rx rxs h
  obtain ⟨a, kvs, rfl, rfl, ha, q⟩ := h
  cases rx
  cases rxs
  obtain ⟨z, hd, xs', rel, o, es, ep, ho, hx, hdat, _⟩ := dt_rd I.hok (.inl ha)
  refine call_vals (es := es) (ep := ep) hd ⟨o, ho, hx, hdat⟩ ?_
  exact ⟨.ref s.heap.objs.size, upd H s.heap.objs.size (valsO s.heap.objs.size a), I.laid (t' := s.toks) (fun b u e => Heap.get?_push_of_some _ e) (Nat.le_refl _) (valsO_ok (Heap.get?_push_size _ rfl)), rfl, q _ (I.hok.fresh (Nat.le_refl _))⟩
theorem vals_at : ∀ {kvs : List (List Key × V)} {xs : List (List Key × Addr × Value)} {H : Hp}, KT H kvs xs → Vals (kvs.map (·.2)) (xs.map fun x => x.2.2) := by
  intro kvs xs H h
  induction h with
  | nil => exact .nil
  | cons a _ ih => exact .cons a.2.2 ih
def rListVals : List V → Hp → VK → Prop := fun xs H Q => ∃ (p d : Addr) (kvs : List (List Key × V)), xs = [.ref p] ∧ H p = some (valsO p d) ∧ H d = some (.dT kvs) ∧ ∀ q, H q = none → Q (.ref q) (upd H q (.lst (kvs.map (·.2))))
theorem call_listVals (hc : X.calm = true) : CallR X (.type "list") rListVals := by
  intro pins s σ H xs us Q I r h
  obtain ⟨p, d, kvs, rfl, hp, hd, q⟩ := h
  obtain ⟨u, rfl, rx⟩ := r.one
  cases rx
  obtain ⟨z, nd, ks, pr, o, es, ep, ho, hx, hdt, he, hn⟩ := dt_rd I.hok (.inl hd)
  obtain ⟨hv, _, _⟩ := (show ObjOk X.prog X.w H s.heap p (valsO p d) from I.hok p _ hp)
  have l1 : es.size = ks.length := size_of_entries he
  have l2 : kvs.length = ks.length := Paired.length pr
  refine PySem.W.kdl_call (KdlSrc.rawValues (r := p) (d := d) (es := es) (ep := ep)) (I.ok.hd hc) ⟨hv, o, ho, hx, hdt⟩ (by omega) fun h' tk acc' c' kp e it => ?_
  have ea : acc'.toList = ks.map fun x => x.2.2 := by
    have hl : acc'.toList.length = ks.length := by rw [Array.length_toList, it.1]; exact l1
    apply List.ext_getElem?
    intro j
    rw [List.getElem?_map]
    cases hj : acc'.toList[j]? with
    | none =>
      have h1 := List.getElem?_eq_none_iff.mp hj
      rw [List.getElem?_eq_none (by omega)]
      all_goals rfl
    | some v =>
      obtain ⟨hi, hv'⟩ := it.2 j v (by rw [← Array.getElem?_toList]; exact hj)
      have qe := entry_at he j
      rw [Array.getElem?_eq_getElem hi] at qe
      cases hb : ks[j]? with
      | none =>
        rw [hb] at qe
        exact nomatch (show some es[j] = none from qe)
      | some b =>
        rw [hb] at qe
        have e2 : es[j] = entryOfKey (tupleKind (mixKind X.prog X.w)) b := Option.some.inj qe
        rw [hv', e2]
        all_goals rfl
  have rv : Vals (kvs.map (·.2)) acc'.toList := by rw [ea]; exact vals_at pr
  refine ⟨.ref s.heap.objs.size, _, I.laid (t' := tk) (o := .lst (kvs.map (·.2))) kp (Nat.le_refl _) ?_, rfl, q _ (I.hok.fresh (Nat.le_refl _))⟩
  exact ⟨by rw [List.length_map]; exact z, acc'.toList, c', rv, by rw [Array.toArray_toList]; exact e⟩
end
end De

set_option Elab.async false
set_option linter.all false
set_option maxRecDepth 100000
set_option maxHeartbeats 8000000
namespace K
open PySem PySem.Spec PyProof.Rows L2 G D L S C Sx Kx Ex Lt Qe De Er
open Fz hiding Fr
open C8 (pss_cut tCut)
open PySem.W (dataLt alike AllAlike Sortable)
theorem wdAll_of : ∀ {ds : List Dat}, (∀ d ∈ ds, Wd d) → wdAll ds = true
  | [], _ => rfl
  | d :: ds, h => by
    show (wd d && wdAll ds) = true
    rw [show wd d = true from h d List.mem_cons_self, wdAll_of fun x hx => h x (List.mem_cons_of_mem _ hx)]
    rfl
theorem wd_of {ds : List Dat} (hl : ds.length ≤ 1000) (h : ∀ d ∈ ds, Wd d) : Wd (.lst ds) ∧ Wd (.tup ds) := by
  have q : (decide (ds.length ≤ 1000) && wdAll ds) = true := by
    rw [decide_eq_true hl, wdAll_of h]
    rfl
  exact ⟨q, q⟩
/-- texts can be sorted -/
theorem ord_strs (ws : List Str) : Ord (ws.map Dat.str) := by
  refine ⟨fun d hd => ?_, fun d hd e he => ?_, .inr fun d hd => ?_, fun d hd => ?_⟩
  · obtain ⟨x, _, rfl⟩ := List.mem_map.mp hd
    rfl
  · rw [List.map_map] at hd he
    obtain ⟨x, _, rfl⟩ := List.mem_map.mp hd
    obtain ⟨y, _, rfl⟩ := List.mem_map.mp he
    simp [Dat.py, alike]
  · rw [List.map_map] at hd
    obtain ⟨x, _, rfl⟩ := List.mem_map.mp hd
    exact ⟨fun e => (by cases e), fun xs e => (by cases e)⟩
  · obtain ⟨x, _, rfl⟩ := List.mem_map.mp hd
    simp [Dat.py, PyData.depth]
/-- a list of texts in order: texts again, the same ones -/
theorem sort_strs (ws : List Str) : ∃ us : List Str, sortD (ws.map Dat.str) = us.map Dat.str ∧ us.Perm ws := perm_map_str (List.mergeSort_perm _ _)
/-- a list or a tuple of such data -/
def SeqOf (K : PySem.W.Frag) (H : Hp) (v : V) (ds : List Dat) : Prop := Rep K H v (.lst ds) ∨ Rep K H v (.tup ds)
theorem SeqOf.mono {K : PySem.W.Frag} {H H' : Hp} {v : V} {ds : List Dat} (h : SeqOf K H v ds) (s : Same H H') : SeqOf K H' v ds := h.imp (Rep.mono s _) (Rep.mono s _)
theorem SeqOf.at1 {K : PySem.W.Frag} {H : Hp} {v : V} {ds : List Dat} (h : SeqOf K H v ds) : ∃ p xs, v = .ref p ∧ (H p = some (.lst xs) ∨ H p = some (.tup xs)) ∧ RepAll K H xs ds := by
  rcases h with ⟨p, xs, e, h1, h2⟩ | ⟨p, xs, e, h1, h2⟩
  · exact ⟨p, xs, e, .inl h1, h2⟩
  · exact ⟨p, xs, e, .inr h1, h2⟩
def Rl.key (r : Rl) : List Key := [.inr r.door, .inl r.state, .inr r.kind]
/-- names that a gate takes -/
structure Names (ws : List Str) : Prop where
  nd : ws.Nodup
  ok : ∀ w ∈ ws, nameOk w = true
  len : ws.length ≤ 1000
theorem Names.are {ws : List Str} (h : Names ws) : namesIn (ws.map .str) = true := by
  unfold namesIn
  rw [Bool.and_eq_true, List.map_map, decide_eq_true_eq]
  refine ⟨?_, ?_⟩
  · rw [List.all_map]
    exact List.all_eq_true.mpr fun w hw => h.ok w hw
  · have e : (strOf ∘ Dat.str) = id := rfl
    rw [e, List.map_id]
    exact h.nd
/-- the gate that stands at x: its parts, its rules as they came -/
structure GateAt (K : PySem.W.Frag) (C : Addr) (H : Hp) (x : Addr) (n : Int) (ds cs : List Str) (rs : List Rl) : Prop where
  ex : ∃ (dx d c r : Addr) (kvs : List (List Key × V)) (us ws : List Str), H x = some (.ins C dx [("_states", .int n), ("_doors", .ref d), ("_closet", .ref c), ("_rules", .ref r)]) ∧
    H d = some (.lst (us.map .str)) ∧ H c = some (.lst (ws.map .str)) ∧ H r = some (.dT kvs) ∧ us.Perm ds ∧ ws.Perm cs ∧ kvs.map (·.1) = rs.map Rl.key ∧ RepAll K H (kvs.map (·.2)) (rs.map Rl.dat) ∧ sortD (ds.map Dat.str) = us.map Dat.str ∧ sortD (cs.map Dat.str) = ws.map Dat.str
/-- the gate that has just been made at x: its parts are new, its rules the ones handed in -/
structure GateN (K : PySem.W.Frag) (C : Addr) (Gf G H : Hp) (x : Addr) (n : Int) (ds cs : List Str) (rs : List Rl) : Prop where
  ex : ∃ (dx d c r : Addr) (kvs : List (List Key × V)) (us ws : List Str), H x = some (.ins C dx [("_states", .int n), ("_doors", .ref d), ("_closet", .ref c), ("_rules", .ref r)]) ∧
    H d = some (.lst (us.map .str)) ∧ H c = some (.lst (ws.map .str)) ∧ H r = some (.dT kvs) ∧ us.Perm ds ∧ ws.Perm cs ∧ kvs.map (·.1) = rs.map Rl.key ∧ RepAll K Gf (kvs.map (·.2)) (rs.map Rl.dat) ∧ G d = none ∧ G c = none ∧ G r = none ∧ sortD (ds.map Dat.str) = us.map Dat.str ∧ sortD (cs.map Dat.str) = ws.map Dat.str
theorem fs4 (n : Int) (d c r : Addr) : putF "_rules" (.ref r) (putF "_closet" (.ref c) (putF "_doors" (.ref d) (putF "_states" (.int n) []))) =
    ([("_states", .int n), ("_doors", .ref d), ("_closet", .ref c), ("_rules", .ref r)] : List (Str × V)) := by
  have e1 : ¬ (("_states" : Str) = "_doors") := by decide +kernel
  have e2 : ¬ (("_states" : Str) = "_closet") := by decide +kernel
  have e3 : ¬ (("_states" : Str) = "_rules") := by decide +kernel
  have e4 : ¬ (("_doors" : Str) = "_closet") := by decide +kernel
  have e5 : ¬ (("_doors" : Str) = "_rules") := by decide +kernel
  have e6 : ¬ (("_closet" : Str) = "_rules") := by decide +kernel
  simp only [putF, if_neg e1, if_neg e2, if_neg e3, if_neg e4, if_neg e5, if_neg e6]
theorem putF_len (f : Str) (v : V) : ∀ fs : List (Str × V), (putF f v fs).length ≤ fs.length + 1
  | [] => Nat.le_refl _
  | (g, u) :: fs => by
    have := putF_len f v fs
    show (if g = f then _ else _ : List (Str × V)).length ≤ _
    split <;> simp <;> omega
theorem lk4 (a b c d : V) : ([("_states", a), ("_doors", b), ("_closet", c), ("_rules", d)] : List (Str × V)).lookup ("_states" : Str) = some a ∧
    ([("_states", a), ("_doors", b), ("_closet", c), ("_rules", d)] : List (Str × V)).lookup ("_doors" : Str) = some b ∧
    ([("_states", a), ("_doors", b), ("_closet", c), ("_rules", d)] : List (Str × V)).lookup ("_closet" : Str) = some c ∧
    ([("_states", a), ("_doors", b), ("_closet", c), ("_rules", d)] : List (Str × V)).lookup ("_rules" : Str) = some d ∧
    ([("_states", a), ("_doors", b), ("_closet", c), ("_rules", d)] : List (Str × V)).lookup ("_is_rule" : Str) = none := ⟨rfl, rfl, rfl, rfl, rfl⟩
theorem valV_no {κ : Type} [DecidableEq κ] : ∀ {kvs : List (κ × V)} {k : κ}, (∀ kv ∈ kvs, kv.1 ≠ k) → valV kvs k = none
  | [], _, _ => rfl
  | kv :: kvs, k, h => by rw [valV_neg (h kv List.mem_cons_self)]; exact valV_no fun q hq => h q (List.mem_cons_of_mem _ hq)
theorem valV_at {κ : Type} [DecidableEq κ] : ∀ {kvs : List (κ × V)} {k : κ} {v : V} {i : Nat}, (kvs.map (·.1)).Nodup → kvs[i]? = some (k, v) → valV kvs k = some v
  | [], _, _, _, _, h => by simp at h
  | kv :: kvs, k, v, 0, _, h => by
    have h : kv = (k, v) := Option.some.inj h
    subst h
    exact valV_pos rfl
  | kv :: kvs, k, v, i + 1, nd, h => by
    have h : kvs[i]? = some (k, v) := h
    rw [List.map_cons, List.nodup_cons] at nd
    rw [valV_neg (fun z => nd.1 (List.mem_map.mpr ⟨(k, v), List.mem_of_getElem? h, z.symm⟩))]
    exact valV_at nd.2 h
theorem nodup_take {α : Type} {xs : List α} {i : Nat} {a : α} (h : xs.Nodup) (e : xs[i]? = some a) : a ∉ xs.take i := by
  obtain ⟨hi, e⟩ := List.getElem?_eq_some_iff.mp e
  intro z
  obtain ⟨j, hj, e2⟩ := List.getElem_of_mem z
  rw [List.length_take] at hj
  rw [List.getElem_take] at e2
  exact List.pairwise_iff_getElem.mp h j i (by omega) hi (by omega) (e2.trans e.symm)
theorem Rl.Ok.perm {n : Int} {ds cs us ws : List Str} {r : Rl} (h : r.Ok n ds cs) (p : us.Perm ds) (q : ws.Perm cs) : r.Ok n us ws := by
  have m : ∀ {w : Str} {l : List Str}, w ∈ cs ++ l → w ∈ ws ++ l := fun hw => by
    rcases List.mem_append.mp hw with hw | hw
    · exact List.mem_append_left _ (q.mem_iff.mpr hw)
    · exact List.mem_append_right _ hw
  exact ⟨p.mem_iff.mpr h.door, h.s0, h.s1, m h.kind, h.l0, h.l1, fun e => ⟨(h.told0 e).1, fun w hw => m ((h.told0 e).2 w hw)⟩, fun w hw => m (h.told1 w hw), h.len⟩
theorem cut6 : ¬ (HT.sIx 6 0 none = 0 ∧ HT.sIx 6 6 (some 3) = 6) := by decide +kernel
theorem key_cut (r : Rl) (q : V) : cutV [.str r.door, .int r.state, .str r.kind, .int r.later, .bl r.keeps, q] none (some 3) = r.key.map kV := rfl
/-- how many states, if it is a number from 1 to 64 -/
def okStates : Dat → Bool
  | .int i => decide (1 ≤ i) && decide (i ≤ 64)
  | _ => false
def noneIn : Dat → Bool
  | .lst ds => ds.isEmpty
  | .tup ds => ds.isEmpty
  | _ => false
def intOf : Dat → Int
  | .int i => i
  | _ => 0
def strsOf : Dat → List Str
  | .lst ds => ds.map strOf
  | .tup ds => ds.map strOf
  | _ => []
/-- the first of three arguments that is not as described -/
def headBad (st dd cd : Dat) : Option Int :=
  if okStates st = false then some 0 else if (areNames dd && !noneIn dd) = false then some 1 else if areNames cd = false then some 2 else none
/-- the key of a rule -/
def keyOf : Dat → List Key
  | .tup (.str a :: .int i :: .str b :: _) => [.inr a, .inl i, .inr b]
  | _ => []
def rulesIn (n : Int) (ds cs : List Str) (xs : List Dat) : Bool := xs.all (isRuleD n ds cs) && decide ((xs.map keyOf).Nodup)
def rulesD (n : Int) (ds cs : List Str) : Dat → Bool
  | .lst xs => rulesIn n ds cs xs
  | .tup xs => rulesIn n ds cs xs
  | _ => false
/-- the first argument that is not as described -/
def badArg (st dd cd rd : Dat) : Option Int := match headBad st dd cd with
  | some k => some k
  | none => if rulesD (intOf st) (strsOf dd) (strsOf cd) rd = true then none else some 3
theorem names_in {xs : List Dat} (h : namesIn xs = true) : ∃ ws : List Str, xs = ws.map .str ∧ ws.Nodup ∧ ∀ w ∈ ws, nameOk w = true := by
  unfold namesIn at h
  rw [Bool.and_eq_true, decide_eq_true_eq] at h
  refine ⟨xs.map strOf, names_strs h.1, h.2, fun w hw => ?_⟩
  obtain ⟨d, hd, rfl⟩ := List.mem_map.mp hw
  have := List.all_eq_true.mp h.1 d hd
  cases d with
  | str x => exact this
  | _ => cases this
theorem names_of {d : Dat} (h : areNames d = true) : ∃ ws : List Str, (d = .lst (ws.map .str) ∨ d = .tup (ws.map .str)) ∧ ws.Nodup ∧ (∀ w ∈ ws, nameOk w = true) ∧ strsOf d = ws := by
  have e : ∀ ws : List Str, (ws.map Dat.str).map strOf = ws := fun ws => by
    rw [List.map_map, show (strOf ∘ Dat.str) = id from rfl, List.map_id]
  cases d with
  | lst xs =>
    obtain ⟨ws, rfl, h1, h2⟩ := names_in (show namesIn xs = true from h)
    exact ⟨ws, .inl rfl, h1, h2, e ws⟩
  | tup xs =>
    obtain ⟨ws, rfl, h1, h2⟩ := names_in (show namesIn xs = true from h)
    exact ⟨ws, .inr rfl, h1, h2, e ws⟩
  | _ => cases h
theorem oneOf_perm {us ds : List Str} (p : us.Perm ds) : oneOf us = oneOf ds := by
  funext d
  cases d with
  | str x => simp [oneOf, p.mem_iff]
  | _ => rfl
theorem ruleD_perm {n : Int} {ds cs us ws : List Str} (p : us.Perm ds) (q : ws.Perm cs) : isRuleD n us ws = isRuleD n ds cs := by
  have e : ∀ l : List Str, oneOf (ws ++ l) = oneOf (cs ++ l) := fun l => oneOf_perm (q.append_right l)
  funext d
  unfold isRuleD toldOk
  simp only [oneOf_perm p, e]
theorem key_dat (r : Rl) : keyOf r.dat = r.key := rfl
/-- what the arguments must be: not too long, the rules plain if they are looked at -/
structure ArgOk (st dd cd rd : Dat) : Prop where
  wd : Wd dd
  ld : ∀ ds, dd = .lst ds ∨ dd = .tup ds → ds.length ≤ 1000
  wc : Wd cd
  lc : ∀ ds, cd = .lst ds ∨ cd = .tup ds → ds.length ≤ 1000
  rl : headBad st dd cd = none → ∀ ds, rd = .lst ds ∨ rd = .tup ds → ds.length ≤ 1000 ∧ ∀ d ∈ ds, Pl d ∧ ∀ xs, d = .tup xs → ∀ ts, .tup ts ∈ xs → ts.length ≤ 1000
def spInitX (K : PySem.W.Frag) (C W : Addr) : Sp := fun vs H Q E => ∃ (x dx : Addr) (v1 v2 v3 v4 : V) (st dd cd rd : Dat) (G Gf : Hp), vs = [.ref x, v1, v2, v3, v4] ∧ H x = some (.ins C dx []) ∧
  Same Gf G ∧ Same G H ∧ G x = none ∧ Rep K Gf v1 st ∧ Rep K Gf v2 dd ∧ Rep K Gf v3 cd ∧ Rep K Gf v4 rd ∧ ArgOk st dd cd rd ∧
  (∀ k d H', badArg st dd cd rd = some k → G d = none → Same G H' → H' d = some (.xd [("place", .int k)]) → E (.ref W) (some d) H') ∧
  (∀ (n : Int) (ds cs : List Str) (rs : List Rl) (H' : Hp), badArg st dd cd rd = none → st = .int n → 1 ≤ n → n ≤ 64 → strsOf dd = ds → strsOf cd = cs → Names ds → Names cs → ds ≠ [] → (rd = .lst (rs.map Rl.dat) ∨ rd = .tup (rs.map Rl.dat)) →
    (∀ r ∈ rs, r.Ok n ds cs) → (rs.map Rl.key).Nodup → Same G H' → GateN K C Gf G H' x n ds cs rs → Q .non H')
section
variable {P : Program} {w : World} {K : PySem.W.Frag} {mg : Str → Option Value} {base : Heap}
abbrev s_Gate___init__ : Stmt := inClass (top 10) 0
theorem sc_Gate___init__ : FnScope ["self", "states", "doors", "closet", "rules", "rule"] ["self", "states", "doors", "closet", "rules"] (defScope s_Gate___init__) := ⟨rfl, rfl, rfl, by decide +kernel, rfl, by decide +kernel, by decide +kernel⟩
theorem ok_init {f C W fR fW : Addr} {fd fdR fdW : FuncData} (F : Fun K "__init__" "Gate.__init__" s_Gate___init__ f fd) (T : Bl mg) (gc : GCls K C)
    (hW : mg "Wrong" = some (.ref W)) (EW : ErC K W fW "place") (IW : FnOk P w K mg base CX0 1 fW fdW ["self", "place"] (spErr K W "place")) (bW : Binds K fdW ["self", "place"] [])
    (D_is_integer : Def P w K mg base 2 "is_integer" ["thing"] (spB K (fun _ => True) isWhole))
    (D_are_names : Def P w K mg base 3 "are_names" ["thing"] (spB K (fun d => Wd d ∧ ∀ ds, d = .lst ds ∨ d = .tup ds → ds.length < 4000) areNames))
    (M_is_rule : Meth K C "_is_rule" fR) (IR : Fn P w K mg base CX0 4 fR fdR ["self", "thing"] (spIsRule K C)) (b_is_rule : Binds K fdR ["self", "thing"] []) :
    Fn P w K mg base (L2.CX P w) 5 f fd ["self", "states", "doors", "closet", "rules"] (spInitX K C W) := by
  refine fn_by F sc_Gate___init__ (fun vs H Q E h => ?_) (fun cdv A outer s H vs Q E hc hr h => ?_)
  · obtain ⟨x, dx, v1, v2, v3, v4, st, dd, cd, rd, G, Gf, rfl, _⟩ := h
    rfl
  · obtain ⟨x, dx, v1, v2, v3, v4, st, dd, cd, rd, G, Gf, rfl, hx, sGf, sG, gx, h1, h2, h3, h4, ok, kE, kQ⟩ := h
    have hu64 := hr.units
    have hu := hu_of hr
    refine ⟨_, (pss_cons (ps_if (PW.pt (pw_or (pt_not (pt_val (pe_def D_is_integer hc (hr.mono (by decide)) (pa_cons (pv 1) pa_nil)))) (pw_or1 (pt_not (pt_chain op_le op_le pe_int (pv 1) pe_int)))))
  (pss_one (ps_raise rfl (takes_of rfl rfl rfl rfl) (pmk_oex (dvs := []) (ds := []) EW.ox EW.iC EW.tI IW (hr.mono (by decide)) bW .nil pass0 rfl hW (pa_cons pe_int pa_nil))))
  pss_nil)
 (pss_cons (ps_if (PW.pt (pw_or (pt_not (pt_val (pe_def D_are_names hc (hr.mono (by decide)) (pa_cons (pv 2) pa_nil)))) (pw_or1 (pt_cmpR op_eq (pe_callB call_len (by rfl) T.lenN (by decide +kernel) (pa_cons (pv 2) pa_nil)) pe_int (nomark _)))))
  (pss_one (ps_raise rfl (takes_of rfl rfl rfl rfl) (pmk_oex (dvs := []) (ds := []) EW.ox EW.iC EW.tI IW (hr.mono (by decide)) bW .nil pass0 rfl hW (pa_cons pe_int pa_nil))))
  pss_nil)
 (pss_cons (ps_if (pt_not (pt_val (pe_def D_are_names hc (hr.mono (by decide)) (pa_cons (pv 3) pa_nil))))
  (pss_one (ps_raise rfl (takes_of rfl rfl rfl rfl) (pmk_oex (dvs := []) (ds := []) EW.ox EW.iC EW.tI IW (hr.mono (by decide)) bW .nil pass0 rfl hW (pa_cons pe_int pa_nil))))
  pss_nil)
 (pss_cons (ps_if (pt_not (pt_val (pe_callB call_isiT (by rfl) T.isinstanceN (by decide +kernel) (pa_cons (pv 4) (pa_cons (pe_tup (pa_cons (pe_bltn (v := .ty "list") (by rfl) T.listN (by decide +kernel) rfl) (pa_cons (pe_bltn (v := .ty "tuple") (by rfl) T.tupleN (by decide +kernel) rfl) pa_nil))) pa_nil)))))
  (pss_one (ps_raise rfl (takes_of rfl rfl rfl rfl) (pmk_oex (dvs := []) (ds := []) EW.ox EW.iC EW.tI IW (hr.mono (by decide)) bW .nil pass0 rfl hW (pa_cons pe_int pa_nil))))
  pss_nil)
 (pss_cons (ps_fld (pv 0) (pv 1) rfl)
 (pss_cons (ps_fld (pv 0) (pe_callB (call_sortedA hu64) (by rfl) T.sortedN (by decide +kernel) (pa_cons (pv 2) pa_nil)) rfl)
 (pss_cons (ps_fld (pv 0) (pe_callB (call_sortedA hu64) (by rfl) T.sortedN (by decide +kernel) (pa_cons (pv 3) pa_nil)) rfl)
 (pss_cons (ps_fld (pv 0) pe_dnewT rfl)
 (pss_one (ps_for (passes_of rfl) rfl (pi_or (pi_list (pv 4)) (pi_tup (pv 4))) (pg_name (i := 5) sc_Gate___init__.nd rfl (Or.inl rfl))
  (pss_cons (ps_if (PW.pt (pw_or (pt_not (pt_val (pe_mth (pv 0) gc.cl M_is_rule IR hc (hr.mono (by decide)) b_is_rule .nil pass0 (pa_cons (pv 5) pa_nil)))) (pw_or1 (pt_cmp (pc_din hu (pe_slice sl_tup (pv 5) po_none (po_some pe_int)) (pe_fld (pv 0) rfl))))))
  (pss_one (ps_raise rfl (takes_of rfl rfl rfl rfl) (pmk_oex (dvs := []) (ds := []) EW.ox EW.iC EW.tI IW (hr.mono (by decide)) bW .nil pass0 rfl hW (pa_cons pe_int pa_nil))))
  pss_nil)
 (pss_one (ps_dput hu (pe_fld (pv 0) rfl) (pe_slice sl_tup (pv 5) po_none (po_some pe_int)) (pv 5) rfl))))))))))))), ?_⟩
    have r1 := Rep.mono (sGf.trans sG) _ h1
    have bad0 : okStates st = false → badArg st dd cd rd = some 0 := fun e => by
      unfold badArg headBad
      rw [if_pos e]
    -- states
    refine ⟨_, rfl, v1, st, rfl, r1, trivial, fun H1 s1 => ⟨_, rfl, ?_⟩⟩
    have sG1 := sG.trans s1
    cases ew : isWhole st with
    | false =>
      refine iteT (iteT ?_)
      exact mk_read fun d H' hd sH hx' => kE 0 d H' (bad0 (by cases st <;> first | rfl | cases ew)) (sG1.free hd) (sG1.trans sH) hx'
    | true =>
    obtain ⟨n, rfl⟩ : ∃ n, st = .int n := by
      cases st with
      | int n => exact ⟨n, rfl⟩
      | _ => cases ew
    obtain rfl : v1 = .int n := h1
    refine iteF ?_
    refine ⟨_, rfl, _, _, rfl, rfl, _, rfl, ?_⟩
    refine ite2 (fun e1 => ?_) (fun e1 => ?_)
    rotate_left
    · have n1 : ¬ 1 ≤ n := by simpa using e1
      refine ⟨_, rfl, iteT ?_⟩
      exact mk_read fun d H' hd sH hx' => kE 0 d H' (bad0 (by simp [okStates, n1])) (sG1.free hd) (sG1.trans sH) hx'
    have n1 : 1 ≤ n := by simpa using e1
    refine ⟨_, _, rfl, rfl, _, rfl, ?_⟩
    by_cases n64 : n ≤ 64
    rotate_left
    · rw [decide_eq_false n64]
      refine iteT ?_
      exact mk_read fun d H' hd sH hx' => kE 0 d H' (bad0 (by simp [okStates, n64])) (sG1.free hd) (sG1.trans sH) hx'
    rw [decide_eq_true n64]
    refine iteF ?_
    have es : okStates (.int n) = true := by simp [okStates, n1, n64]
    -- doors
    have lt4 : ∀ {d : Dat}, (∀ ds, d = .lst ds ∨ d = .tup ds → ds.length ≤ 1000) → ∀ ds, d = .lst ds ∨ d = .tup ds → ds.length < 4000 := fun h ds e => Nat.lt_of_le_of_lt (h ds e) (by decide)
    refine ⟨_, rfl, v2, dd, rfl, Rep.mono (sGf.trans sG1) _ h2, ⟨ok.wd, lt4 ok.ld⟩, fun H2 s2 => ⟨_, rfl, ?_⟩⟩
    have sG2 := sG1.trans s2
    have bad1 : (areNames dd && !noneIn dd) = false → badArg (.int n) dd cd rd = some 1 := fun e => by
      unfold badArg headBad
      rw [if_neg (by rw [es]; decide), if_pos e]
    cases ed : areNames dd with
    | false =>
      refine iteT (iteT ?_)
      exact mk_read fun d H' hd sH hx' => kE 1 d H' (bad1 (by rw [ed]; rfl)) (sG2.free hd) (sG2.trans sH) hx'
    | true =>
    refine iteF ?_
    obtain ⟨ds, eds, ndd, dok, sds⟩ := names_of ed
    have nd : Names ds := ⟨ndd, dok, by
      rcases eds with e | e
      · have := ok.ld _ (.inl e)
        rwa [List.length_map] at this
      · have := ok.ld _ (.inr e)
        rwa [List.length_map] at this⟩
    have hd : SeqOf K Gf v2 (ds.map .str) := by
      rcases eds with e | e
      · exact .inl (by rw [e] at h2; exact h2)
      · exact .inr (by rw [e] at h2; exact h2)
    have en : noneIn dd = ds.isEmpty := by
      rcases eds with e | e <;> rw [e] <;> cases ds <;> rfl
    obtain ⟨p2, xs2, rfl, hp2, rx2⟩ := hd.at1
    have l2 : xs2.length = ds.length := by rw [rx2.length, List.length_map]
    have len2 : LenV K (.ref p2) H2 xs2.length := by
      rcases hp2 with h | h
      · exact .inl ⟨xs2, SqL.of (sG2 _ _ (sGf _ _ h)), rfl⟩
      · exact .inr ⟨xs2, SqT.of (sG2 _ _ (sGf _ _ h)), rfl⟩
    refine ⟨_, rfl, .ref p2, _, rfl, len2, rfl, _, rfl, ?_⟩
    by_cases dn : ds = []
    · rw [show decide (V.int (xs2.length : Nat) = V.int 0) = true by rw [l2, dn]; rfl]
      refine iteT ?_
      exact mk_read fun d H' hd' sH hx' => kE 1 d H' (bad1 (by rw [ed, en, dn]; rfl)) (sG2.free hd') (sG2.trans sH) hx'
    have l0 : ¬ xs2.length = 0 := fun z => dn (List.length_eq_zero_iff.mp (by rw [← l2]; exact z))
    refine ite2 (fun e => absurd (by have := V.int.inj (of_decide_eq_true e); omega) l0) (fun _ => ?_)
    have e1 : (areNames dd && !noneIn dd) = true := by
      rw [ed, en]
      cases ds with
      | nil => exact absurd rfl dn
      | cons a r => rfl
    -- closet
    refine ⟨_, rfl, v3, cd, rfl, Rep.mono (sGf.trans sG2) _ h3, ⟨ok.wc, lt4 ok.lc⟩, fun H3 s3 => ⟨_, rfl, ?_⟩⟩
    have sG3 := sG2.trans s3
    cases ec : areNames cd with
    | false =>
      refine iteT ?_
      exact mk_read fun d H' hd' sH hx' => kE 2 d H' (by
        unfold badArg headBad
        rw [if_neg (by rw [es]; decide), if_neg (by rw [e1]; decide), if_pos ec]) (sG3.free hd') (sG3.trans sH) hx'
    | true =>
    refine iteF ?_
    have head : headBad (.int n) dd cd = none := by
      unfold headBad
      rw [if_neg (by rw [es]; decide), if_neg (by rw [e1]; decide), if_neg (by rw [ec]; decide)]
    have whole : badArg (.int n) dd cd rd = if rulesD n (strsOf dd) (strsOf cd) rd = true then none else some 3 := by
      unfold badArg
      rw [head]
      rfl
    obtain ⟨cs, ecs, ndc, cok, scs⟩ := names_of ec
    have nc : Names cs := ⟨ndc, cok, by
      rcases ecs with e | e
      · have := ok.lc _ (.inl e)
        rwa [List.length_map] at this
      · have := ok.lc _ (.inr e)
        rwa [List.length_map] at this⟩
    have hC : SeqOf K Gf v3 (cs.map .str) := by
      rcases ecs with e | e
      · exact .inl (by rw [e] at h3; exact h3)
      · exact .inr (by rw [e] at h3; exact h3)
    rw [sds, scs] at whole
    obtain ⟨p3, xs3, rfl, hp3, rx3⟩ := hC.at1
    have l3 : xs3.length = cs.length := by rw [rx3.length, List.length_map]
    -- the rules
    refine ⟨_, rfl, by show 2 ≤ sizeLine; decide, fun p hp => ?_⟩
    have sG4 := sG3.trans (same_upd (o := .tup [.ty "list", .ty "tuple"]) hp)
    have r4 := Rep.mono (sGf.trans sG4) _ h4
    refine ⟨_, p, _, _, _, _, rfl, upd_same, .cons (.ty _) (.cons (.ty _) .nil), r4.ty, kit_seq r4, _, rfl, ?_⟩
    cases eq4 : rd.isSeq with
    | false =>
      refine iteT ?_
      exact mk_read fun d H' hd' sH hx' => kE 3 d H' (by
        rw [whole, if_neg (by cases rd <;> first | (cases eq4; done) | (intro z; cases z))]) (sG4.free hd') (sG4.trans sH) hx'
    | true =>
    refine iteF ?_
    have s14 := ((s1.trans s2).trans s3).trans (same_upd (o := .tup [.ty "list", .ty "tuple"]) hp)
    have hp2s := hp2.imp (sGf _ _) (sGf _ _)
    have hp3s := hp3.imp (sGf _ _) (sGf _ _)
    generalize upd H3 p (.tup [.ty "list", .ty "tuple"]) = H4 at s14 sG4
    clear r4
    -- fields
    refine ⟨_, rfl, _, rfl, x, C, dx, _, rfl, s14 _ _ hx, gc.cl, gc.n1, by decide, ?_⟩
    have w1 : ∀ {H' : Hp} {o : HO}, Same G H' → Same G (upd H' x o) := fun s y o e => by
      rw [upd_ne (fun z => by rw [z, gx] at e; cases e)]
      exact s _ _ e
    have sG5 := w1 (o := .ins C dx (putF "_states" (.int n) [])) sG4
    have hx5 : (upd H4 x (.ins C dx (putF "_states" (.int n) []))) x = some (.ins C dx (putF "_states" (.int n) [])) := upd_same
    generalize upd H4 x (.ins C dx (putF "_states" (.int n) [])) = H5 at sG5 hx5
    obtain ⟨us, eus, pus⟩ := sort_strs ds
    refine ⟨_, rfl, p2, xs2, ds.map .str, G, rfl, hp2s.imp (sG5 _ _) (sG5 _ _), sG5, RepAll.mono sGf _ rx2, ord_strs ds, fun p6 ys hp6 ry _ => ?_⟩
    rw [eus] at ry
    obtain rfl := RepAll.strs ry
    have xp6 : x ≠ p6 := ne_of_none hx5 hp6
    have g6 : G p6 = none := sG5.free hp6
    refine ⟨_, rfl, x, C, dx, _, rfl, Eq.trans (upd_ne xp6) hx5, gc.cl, gc.n2, (show 1 < 1000 by decide), ?_⟩
    have sG7 := w1 (o := .ins C dx (putF "_doors" (.ref p6) (putF "_states" (.int n) []))) (sG5.trans (same_upd (o := .lst (us.map .str)) hp6))
    have hd7 : (upd (upd H5 p6 (.lst (us.map .str))) x (.ins C dx (putF "_doors" (.ref p6) (putF "_states" (.int n) [])))) p6 = some (.lst (us.map .str)) := by rw [upd_ne xp6.symm, upd_same]
    have hx7 : (upd (upd H5 p6 (.lst (us.map .str))) x (.ins C dx (putF "_doors" (.ref p6) (putF "_states" (.int n) [])))) x = some (.ins C dx (putF "_doors" (.ref p6) (putF "_states" (.int n) []))) := upd_same
    generalize upd (upd H5 p6 (.lst (us.map .str))) x (.ins C dx (putF "_doors" (.ref p6) (putF "_states" (.int n) []))) = H7 at sG7 hd7 hx7
    -- sorted(closet)
    obtain ⟨ws, ews, pws⟩ := sort_strs cs
    refine ⟨_, rfl, p3, xs3, cs.map .str, G, rfl, hp3s.imp (sG7 _ _) (sG7 _ _), sG7, RepAll.mono sGf _ rx3, ord_strs cs, fun p8 zs hp8 rz _ => ?_⟩
    rw [ews] at rz
    obtain rfl := RepAll.strs rz
    have xp8 : x ≠ p8 := ne_of_none hx7 hp8
    have f2 := putF_len "_doors" (.ref p6) (putF "_states" (.int n) [])
    have f1 := putF_len "_states" (.int n) []
    have f3 := putF_len "_closet" (.ref p8) (putF "_doors" (.ref p6) (putF "_states" (.int n) []))
    have f0 : ([] : List (Str × V)).length = 0 := rfl
    refine ⟨_, rfl, x, C, dx, _, rfl, Eq.trans (upd_ne xp8) hx7, gc.cl, gc.n3, by omega, ?_⟩
    have s8 := same_upd (o := .lst (ws.map .str)) hp8
    have g8 : G p8 = none := sG7.free hp8
    have sG9 := w1 (o := .ins C dx (putF "_closet" (.ref p8) (putF "_doors" (.ref p6) (putF "_states" (.int n) [])))) (sG7.trans s8)
    have hd9 : (upd (upd H7 p8 (.lst (ws.map .str))) x (.ins C dx (putF "_closet" (.ref p8) (putF "_doors" (.ref p6) (putF "_states" (.int n) []))))) p6 = some (.lst (us.map .str)) := by
      rw [upd_ne xp6.symm]
      exact s8 _ _ hd7
    have hc9 : (upd (upd H7 p8 (.lst (ws.map .str))) x (.ins C dx (putF "_closet" (.ref p8) (putF "_doors" (.ref p6) (putF "_states" (.int n) []))))) p8 = some (.lst (ws.map .str)) := by rw [upd_ne xp8.symm, upd_same]
    have hx9 : (upd (upd H7 p8 (.lst (ws.map .str))) x (.ins C dx (putF "_closet" (.ref p8) (putF "_doors" (.ref p6) (putF "_states" (.int n) []))))) x = some (.ins C dx (putF "_closet" (.ref p8) (putF "_doors" (.ref p6) (putF "_states" (.int n) [])))) := upd_same
    generalize upd (upd H7 p8 (.lst (ws.map .str))) x (.ins C dx (putF "_closet" (.ref p8) (putF "_doors" (.ref p6) (putF "_states" (.int n) [])))) = H9 at sG9 hd9 hc9 hx9
    intro m hm
    have xm : x ≠ m := ne_of_none hx9 hm
    have sm := same_upd (o := .dT []) hm
    have gm : G m = none := sG9.free hm
    refine ⟨_, rfl, x, C, dx, _, rfl, sm _ _ hx9, gc.cl, gc.n4, by omega, ?_⟩
    rw [fs4]
    have sGa := w1 (o := .ins C dx [("_states", .int n), ("_doors", .ref p6), ("_closet", .ref p8), ("_rules", .ref m)]) (sG9.trans sm)
    have hda : (upd (upd H9 m (.dT [])) x (.ins C dx [("_states", .int n), ("_doors", .ref p6), ("_closet", .ref p8), ("_rules", .ref m)])) p6 = some (.lst (us.map .str)) := by rw [upd_ne xp6.symm]; exact sm _ _ hd9
    have hca : (upd (upd H9 m (.dT [])) x (.ins C dx [("_states", .int n), ("_doors", .ref p6), ("_closet", .ref p8), ("_rules", .ref m)])) p8 = some (.lst (ws.map .str)) := by rw [upd_ne xp8.symm]; exact sm _ _ hc9
    have hma : (upd (upd H9 m (.dT [])) x (.ins C dx [("_states", .int n), ("_doors", .ref p6), ("_closet", .ref p8), ("_rules", .ref m)])) m = some (.dT []) := by rw [upd_ne xm.symm, upd_same]
    have hxa : (upd (upd H9 m (.dT [])) x (.ins C dx [("_states", .int n), ("_doors", .ref p6), ("_closet", .ref p8), ("_rules", .ref m)])) x = some (.ins C dx [("_states", .int n), ("_doors", .ref p6), ("_closet", .ref p8), ("_rules", .ref m)]) := upd_same
    generalize upd (upd H9 m (.dT [])) x (.ins C dx [("_states", .int n), ("_doors", .ref p6), ("_closet", .ref p8), ("_rules", .ref m)]) = Ha at sGa hda hca hma hxa
    cases rd with
    | lst xs =>
      obtain ⟨p4, xs4, rfl, hp4f, rx4⟩ := h4
      have hp4 := sGf p4 _ hp4f
      have l4 : xs4.length = xs.length := rx4.length
      have whole2 : badArg (.int n) dd cd (.lst xs) = if rulesIn n ds cs xs = true then none else some 3 := whole
      obtain ⟨lrd, okd⟩ := ok.rl head xs (.inl rfl)
      refine .inl ⟨_, rfl, p4, rfl, ⟨_, SqL.of (sGa _ _ hp4)⟩, for_list (K := K) (a := p4) (xs := xs4) (fun i σ H' => ∃ (kvs : List (List Key × V)) (qs : List Rl) (o : Option V), σ = [some (.ref x), some (.int n), some (.ref p2), some (.ref p3), some (.ref p4), o] ∧ Same G H' ∧
      H' x = some (.ins C dx [("_states", .int n), ("_doors", .ref p6), ("_closet", .ref p8), ("_rules", .ref m)]) ∧ H' p6 = some (.lst (us.map .str)) ∧ H' p8 = some (.lst (ws.map .str)) ∧ H' m = some (.dT kvs) ∧
      kvs.map (·.1) = qs.map Rl.key ∧ RepAll K Gf (kvs.map (·.2)) (qs.map Rl.dat) ∧ xs.take i = qs.map Rl.dat ∧ (∀ q ∈ qs, q.Ok n us ws) ∧ (qs.map Rl.key).Nodup) ⟨[], [], _, rfl, sGa, hxa, hda, hca, hma, rfl, rfl, rfl, fun _ h => (nomatch h), by simp⟩ (fun i σ H' _ h => ?_) ?_ ?_⟩
      · obtain ⟨_, _, _, _, h, _⟩ := h
        exact SqL.of (h _ _ hp4)
      · rintro i y σ H' hy ⟨kvs, qs, o, rfl, sGH, ax, a6, a8, am, ek, er, et, okq, ndq⟩
        obtain ⟨dy, hdy, ryf⟩ := rx4.get hy
        have mem := List.mem_of_getElem? hdy
        obtain ⟨pl, tl⟩ := okd dy mem
        obtain ⟨ls, ld, lc, lru, lno⟩ := lk4 (.int n) (.ref p6) (.ref p8) (.ref m)
        have self : Self3 C H' x n us ws := ⟨dx, _, p6, p8, ax, ls, ld, lc, a6, a8, by rw [pus.length_eq]; exact nd.len, by rw [pws.length_eq]; exact nc.len⟩
        have ry := Rep.mono (sGf.trans sGH) _ ryf
        refine ⟨_, rfl, x, dx, _, rfl, ax, lno, _, rfl, x, y, n, us, ws, dy, rfl, self, ry, pl, fun H2 s2 => ⟨_, rfl, ?_⟩⟩
        have sG2' := sGH.trans s2
        cases ei : isRuleD n us ws dy with
        | false =>
          refine iteT (iteT ?_)
          rw [ruleD_perm pus pws] at ei
          exact mk_read fun d H' hd' sH hx' => kE 3 d H' (by
            rw [whole2]
            have : xs.all (isRuleD n ds cs) = false := by
              rw [List.all_eq_false]
              exact ⟨dy, mem, by rw [ei]; decide⟩
            simp [rulesIn, this]) (sG2'.free hd') (sG2'.trans sH) hx'
        | true =>
        refine iteF ?_
        obtain ⟨r, rfl, okr⟩ := ruleD_rl ei tl
        obtain ⟨pr, _, rfl, hpr, v1, _, rfl, e1, v2, _, rfl, e2, v3, _, rfl, e3, v4, _, rfl, e4, v5, _, rfl, e5, v6, _, rfl, e6, rfl⟩ := ry
        obtain rfl : v1 = .str r.door := e1
        obtain rfl : v2 = .int r.state := e2
        obtain rfl : v3 = .str r.kind := e3
        obtain rfl : v4 = .int r.later := e4
        obtain rfl : v5 = .bl r.keeps := e5
        have hpr2 := s2 _ _ hpr
        refine ⟨_, rfl, _, rfl, pr, _, rfl, SqT.of hpr2, cut6, fun q hq => ?_⟩
        have sq := s2.trans (same_upd (o := .tup (cutV [.str r.door, .int r.state, .str r.kind, .int r.later, .bl r.keeps, v6] none (some 3))) hq)
        have aq : (upd H2 q (.tup (cutV [.str r.door, .int r.state, .str r.kind, .int r.later, .bl r.keeps, v6] none (some 3)))) q = some (.tup (r.key.map kV)) := upd_same
        generalize upd H2 q (.tup (cutV [.str r.door, .int r.state, .str r.kind, .int r.later, .bl r.keeps, v6] none (some 3))) = H3' at sq aq
        have li : i < xs.length := (List.getElem?_eq_some_iff.mp hdy).1
        have ktake : (xs.take i).map keyOf = qs.map Rl.key := by
          rw [et, List.map_map]
          rfl
        by_cases nk : r.key ∈ qs.map Rl.key
        · obtain ⟨kv, hkv, ekv⟩ : ∃ kv ∈ kvs, kv.1 = r.key := by
            rw [← ek] at nk
            obtain ⟨kv, h1, h2⟩ := List.mem_map.mp nk
            exact ⟨kv, h1, h2⟩
          obtain ⟨j, hj⟩ := List.mem_iff_getElem?.mp hkv
          have vv : valV kvs r.key = some kv.2 := valV_at (by rw [ek]; exact ndq) (by rw [hj, ← ekv])
          refine ⟨_, rfl, x, C, dx, _, _, rfl, sq _ _ ax, gc.cl, gc.n4, lru, m, some kv.2, rfl, .inr ⟨kvs, r.key, q, .inl (sq _ _ am), rfl, aq, vv.symm⟩, _, rfl, ?_⟩
          refine iteT ?_
          have sG3' := sGH.trans sq
          exact mk_read fun d H' hd' sH hx' => kE 3 d H' (by
            rw [whole2]
            have : ¬ (xs.map keyOf).Nodup := fun z => by
              have h1 := nodup_take (i := i) (a := r.key) z (by rw [List.getElem?_map, hdy]; rfl)
              rw [← List.map_take, ktake] at h1
              exact h1 nk
            simp [rulesIn, this]) (sG3'.free hd') (sG3'.trans sH) hx'
        have nkv : valV kvs r.key = none := by
          refine valV_no fun kv hkv z => nk ?_
          rw [← ek, ← z]
          exact List.mem_map_of_mem hkv
        refine ⟨_, rfl, x, C, dx, _, _, rfl, sq _ _ ax, gc.cl, gc.n4, lru, m, none, rfl, .inr ⟨kvs, r.key, q, .inl (sq _ _ am), rfl, aq, nkv.symm⟩, _, rfl, ?_⟩
        refine iteF ?_
        refine ⟨_, rfl, _, rfl, x, C, dx, _, _, rfl, sq _ _ ax, gc.cl, gc.n4, lru, _, rfl, _, rfl, pr, _, rfl, SqT.of (sq _ _ hpr), cut6, fun q2 hq2 => ?_⟩
        have sq2 := sq.trans (same_upd (o := .tup (cutV [.str r.door, .int r.state, .str r.kind, .int r.later, .bl r.keeps, v6] none (some 3))) hq2)
        have aq2 : (upd H3' q2 (.tup (cutV [.str r.door, .int r.state, .str r.kind, .int r.later, .bl r.keeps, v6] none (some 3)))) q2 = some (.tup (r.key.map kV)) := upd_same
        generalize upd H3' q2 (.tup (cutV [.str r.door, .int r.state, .str r.kind, .int r.later, .bl r.keeps, v6] none (some 3))) = H5' at sq2 aq2
        have lk : kvs.length ≤ 1000 := by
          have h1 := congrArg List.length ek
          have h2 := congrArg List.length et
          rw [List.length_map, List.length_map] at h1
          rw [List.length_map, List.length_take] at h2
          omega
        have am5 := sq2 _ _ am
        refine ⟨m, _, rfl, .inr ⟨kvs, r.key, q2, am5, rfl, aq2, Nat.lt_of_le_of_lt lk (by decide), rfl⟩, putK kvs r.key (.ref pr), qs ++ [r], _, rfl, ?_, ?_, ?_, ?_, upd_same, ?_, ?_, ?_, ?_, ?_⟩
        · intro z o e
          rw [upd_ne (fun z' => by rw [z', gm] at e; cases e)]
          exact (sGH.trans sq2) _ _ e
        · rw [upd_ne (fun z => by have h := sq2 _ _ ax; rw [z, am5] at h; cases h)]
          exact sq2 _ _ ax
        · rw [upd_ne (fun z => by have h := sq2 _ _ a6; rw [z, am5] at h; cases h)]
          exact sq2 _ _ a6
        · rw [upd_ne (fun z => by have h := sq2 _ _ a8; rw [z, am5] at h; cases h)]
          exact sq2 _ _ a8
        · rw [putK_new _ nkv, List.map_append, ek, List.map_append]
          rfl
        · rw [putK_new _ nkv, List.map_append, List.map_append]
          exact RepAll.append er (.one ryf)
        · rw [List.take_add_one, hdy, et, List.map_append]
          rfl
        · intro q' hq'
          rcases List.mem_append.mp hq' with hq' | hq'
          · exact okq q' hq'
          · rw [List.mem_singleton] at hq'
            rw [hq']
            exact okr
        · rw [List.map_append, List.nodup_append]
          refine ⟨ndq, by simp, fun u hu v hv => ?_⟩
          rw [List.map_cons, List.map_nil, List.mem_singleton] at hv
          subst hv
          rintro rfl
          exact nk hu
      · rintro σ H' ⟨kvs, qs, o, rfl, sGH, ax, a6, a8, am, ek, er, et, okq, ndq⟩
        rw [l4, List.take_length] at et
        subst et
        have okq' : ∀ r ∈ qs, r.Ok n ds cs := fun r hr => (okq r hr).perm pus.symm pws.symm
        have fine : rulesIn n ds cs (qs.map Rl.dat) = true := by
          unfold rulesIn
          rw [Bool.and_eq_true, decide_eq_true_eq, List.map_map]
          refine ⟨?_, ndq⟩
          rw [List.all_map, List.all_eq_true]
          exact fun r hr => (okq' r hr).is
        exact kQ n ds cs qs H' (by rw [whole2, if_pos fine]) rfl n1 n64 sds scs nd nc dn (.inl rfl) okq' ndq sGH ⟨dx, p6, p8, m, kvs, us, ws, ax, a6, a8, am, pus, pws, ek, er, g6, g8, gm, eus, ews⟩
    | tup xs =>
      obtain ⟨p4, xs4, rfl, hp4f, rx4⟩ := h4
      have hp4 := sGf p4 _ hp4f
      have l4 : xs4.length = xs.length := rx4.length
      have whole2 : badArg (.int n) dd cd (.tup xs) = if rulesIn n ds cs xs = true then none else some 3 := whole
      obtain ⟨lrd, okd⟩ := ok.rl head xs (.inr rfl)
      refine .inr ⟨_, rfl, p4, rfl, ⟨_, SqT.of (sGa _ _ hp4)⟩, for_tup (K := K) (a := p4) (xs := xs4) (fun i σ H' => ∃ (kvs : List (List Key × V)) (qs : List Rl) (o : Option V), σ = [some (.ref x), some (.int n), some (.ref p2), some (.ref p3), some (.ref p4), o] ∧ Same G H' ∧
      H' x = some (.ins C dx [("_states", .int n), ("_doors", .ref p6), ("_closet", .ref p8), ("_rules", .ref m)]) ∧ H' p6 = some (.lst (us.map .str)) ∧ H' p8 = some (.lst (ws.map .str)) ∧ H' m = some (.dT kvs) ∧
      kvs.map (·.1) = qs.map Rl.key ∧ RepAll K Gf (kvs.map (·.2)) (qs.map Rl.dat) ∧ xs.take i = qs.map Rl.dat ∧ (∀ q ∈ qs, q.Ok n us ws) ∧ (qs.map Rl.key).Nodup) ⟨[], [], _, rfl, sGa, hxa, hda, hca, hma, rfl, rfl, rfl, fun _ h => (nomatch h), by simp⟩ (fun i σ H' _ h => ?_) ?_ ?_⟩
      · obtain ⟨_, _, _, _, h, _⟩ := h
        exact SqT.of (h _ _ hp4)
      · rintro i y σ H' hy ⟨kvs, qs, o, rfl, sGH, ax, a6, a8, am, ek, er, et, okq, ndq⟩
        obtain ⟨dy, hdy, ryf⟩ := rx4.get hy
        have mem := List.mem_of_getElem? hdy
        obtain ⟨pl, tl⟩ := okd dy mem
        obtain ⟨ls, ld, lc, lru, lno⟩ := lk4 (.int n) (.ref p6) (.ref p8) (.ref m)
        have self : Self3 C H' x n us ws := ⟨dx, _, p6, p8, ax, ls, ld, lc, a6, a8, by rw [pus.length_eq]; exact nd.len, by rw [pws.length_eq]; exact nc.len⟩
        have ry := Rep.mono (sGf.trans sGH) _ ryf
        refine ⟨_, rfl, x, dx, _, rfl, ax, lno, _, rfl, x, y, n, us, ws, dy, rfl, self, ry, pl, fun H2 s2 => ⟨_, rfl, ?_⟩⟩
        have sG2' := sGH.trans s2
        cases ei : isRuleD n us ws dy with
        | false =>
          refine iteT (iteT ?_)
          rw [ruleD_perm pus pws] at ei
          exact mk_read fun d H' hd' sH hx' => kE 3 d H' (by
            rw [whole2]
            have : xs.all (isRuleD n ds cs) = false := by
              rw [List.all_eq_false]
              exact ⟨dy, mem, by rw [ei]; decide⟩
            simp [rulesIn, this]) (sG2'.free hd') (sG2'.trans sH) hx'
        | true =>
        refine iteF ?_
        obtain ⟨r, rfl, okr⟩ := ruleD_rl ei tl
        obtain ⟨pr, _, rfl, hpr, v1, _, rfl, e1, v2, _, rfl, e2, v3, _, rfl, e3, v4, _, rfl, e4, v5, _, rfl, e5, v6, _, rfl, e6, rfl⟩ := ry
        obtain rfl : v1 = .str r.door := e1
        obtain rfl : v2 = .int r.state := e2
        obtain rfl : v3 = .str r.kind := e3
        obtain rfl : v4 = .int r.later := e4
        obtain rfl : v5 = .bl r.keeps := e5
        have hpr2 := s2 _ _ hpr
        refine ⟨_, rfl, _, rfl, pr, _, rfl, SqT.of hpr2, cut6, fun q hq => ?_⟩
        have sq := s2.trans (same_upd (o := .tup (cutV [.str r.door, .int r.state, .str r.kind, .int r.later, .bl r.keeps, v6] none (some 3))) hq)
        have aq : (upd H2 q (.tup (cutV [.str r.door, .int r.state, .str r.kind, .int r.later, .bl r.keeps, v6] none (some 3)))) q = some (.tup (r.key.map kV)) := upd_same
        generalize upd H2 q (.tup (cutV [.str r.door, .int r.state, .str r.kind, .int r.later, .bl r.keeps, v6] none (some 3))) = H3' at sq aq
        have li : i < xs.length := (List.getElem?_eq_some_iff.mp hdy).1
        have ktake : (xs.take i).map keyOf = qs.map Rl.key := by
          rw [et, List.map_map]
          rfl
        by_cases nk : r.key ∈ qs.map Rl.key
        · obtain ⟨kv, hkv, ekv⟩ : ∃ kv ∈ kvs, kv.1 = r.key := by
            rw [← ek] at nk
            obtain ⟨kv, h1, h2⟩ := List.mem_map.mp nk
            exact ⟨kv, h1, h2⟩
          obtain ⟨j, hj⟩ := List.mem_iff_getElem?.mp hkv
          have vv : valV kvs r.key = some kv.2 := valV_at (by rw [ek]; exact ndq) (by rw [hj, ← ekv])
          refine ⟨_, rfl, x, C, dx, _, _, rfl, sq _ _ ax, gc.cl, gc.n4, lru, m, some kv.2, rfl, .inr ⟨kvs, r.key, q, .inl (sq _ _ am), rfl, aq, vv.symm⟩, _, rfl, ?_⟩
          refine iteT ?_
          have sG3' := sGH.trans sq
          exact mk_read fun d H' hd' sH hx' => kE 3 d H' (by
            rw [whole2]
            have : ¬ (xs.map keyOf).Nodup := fun z => by
              have h1 := nodup_take (i := i) (a := r.key) z (by rw [List.getElem?_map, hdy]; rfl)
              rw [← List.map_take, ktake] at h1
              exact h1 nk
            simp [rulesIn, this]) (sG3'.free hd') (sG3'.trans sH) hx'
        have nkv : valV kvs r.key = none := by
          refine valV_no fun kv hkv z => nk ?_
          rw [← ek, ← z]
          exact List.mem_map_of_mem hkv
        refine ⟨_, rfl, x, C, dx, _, _, rfl, sq _ _ ax, gc.cl, gc.n4, lru, m, none, rfl, .inr ⟨kvs, r.key, q, .inl (sq _ _ am), rfl, aq, nkv.symm⟩, _, rfl, ?_⟩
        refine iteF ?_
        refine ⟨_, rfl, _, rfl, x, C, dx, _, _, rfl, sq _ _ ax, gc.cl, gc.n4, lru, _, rfl, _, rfl, pr, _, rfl, SqT.of (sq _ _ hpr), cut6, fun q2 hq2 => ?_⟩
        have sq2 := sq.trans (same_upd (o := .tup (cutV [.str r.door, .int r.state, .str r.kind, .int r.later, .bl r.keeps, v6] none (some 3))) hq2)
        have aq2 : (upd H3' q2 (.tup (cutV [.str r.door, .int r.state, .str r.kind, .int r.later, .bl r.keeps, v6] none (some 3)))) q2 = some (.tup (r.key.map kV)) := upd_same
        generalize upd H3' q2 (.tup (cutV [.str r.door, .int r.state, .str r.kind, .int r.later, .bl r.keeps, v6] none (some 3))) = H5' at sq2 aq2
        have lk : kvs.length ≤ 1000 := by
          have h1 := congrArg List.length ek
          have h2 := congrArg List.length et
          rw [List.length_map, List.length_map] at h1
          rw [List.length_map, List.length_take] at h2
          omega
        have am5 := sq2 _ _ am
        refine ⟨m, _, rfl, .inr ⟨kvs, r.key, q2, am5, rfl, aq2, Nat.lt_of_le_of_lt lk (by decide), rfl⟩, putK kvs r.key (.ref pr), qs ++ [r], _, rfl, ?_, ?_, ?_, ?_, upd_same, ?_, ?_, ?_, ?_, ?_⟩
        · intro z o e
          rw [upd_ne (fun z' => by rw [z', gm] at e; cases e)]
          exact (sGH.trans sq2) _ _ e
        · rw [upd_ne (fun z => by have h := sq2 _ _ ax; rw [z, am5] at h; cases h)]
          exact sq2 _ _ ax
        · rw [upd_ne (fun z => by have h := sq2 _ _ a6; rw [z, am5] at h; cases h)]
          exact sq2 _ _ a6
        · rw [upd_ne (fun z => by have h := sq2 _ _ a8; rw [z, am5] at h; cases h)]
          exact sq2 _ _ a8
        · rw [putK_new _ nkv, List.map_append, ek, List.map_append]
          rfl
        · rw [putK_new _ nkv, List.map_append, List.map_append]
          exact RepAll.append er (.one ryf)
        · rw [List.take_add_one, hdy, et, List.map_append]
          rfl
        · intro q' hq'
          rcases List.mem_append.mp hq' with hq' | hq'
          · exact okq q' hq'
          · rw [List.mem_singleton] at hq'
            rw [hq']
            exact okr
        · rw [List.map_append, List.nodup_append]
          refine ⟨ndq, by simp, fun u hu v hv => ?_⟩
          rw [List.map_cons, List.map_nil, List.mem_singleton] at hv
          subst hv
          rintro rfl
          exact nk hu
      · rintro σ H' ⟨kvs, qs, o, rfl, sGH, ax, a6, a8, am, ek, er, et, okq, ndq⟩
        rw [l4, List.take_length] at et
        subst et
        have okq' : ∀ r ∈ qs, r.Ok n ds cs := fun r hr => (okq r hr).perm pus.symm pws.symm
        have fine : rulesIn n ds cs (qs.map Rl.dat) = true := by
          unfold rulesIn
          rw [Bool.and_eq_true, decide_eq_true_eq, List.map_map]
          refine ⟨?_, ndq⟩
          rw [List.all_map, List.all_eq_true]
          exact fun r hr => (okq' r hr).is
        exact kQ n ds cs qs H' (by rw [whole2, if_pos fine]) rfl n1 n64 sds scs nd nc dn (.inr rfl) okq' ndq sGH ⟨dx, p6, p8, m, kvs, us, ws, ax, a6, a8, am, pus, pws, ek, er, g6, g8, gm, eus, ews⟩
    | _ => cases eq4
end
end K

set_option Elab.async false
set_option linter.all false
set_option maxRecDepth 100000
set_option maxHeartbeats 8000000
namespace K
open PySem PySem.Spec PyProof.Rows L2 G D L S C Sx Kx Ex Lt Qe De Er
open Fz hiding Fr
open C8 (pss_cut tCut)
open PySem.W (dataLt alike AllAlike Sortable)
theorem GateAt.mono {K : PySem.W.Frag} {C x : Addr} {H H' : Hp} {n : Int} {ds cs : List Str} {rs : List Rl} (h : GateAt K C H x n ds cs rs) (s : Same H H') : GateAt K C H' x n ds cs rs := by
  obtain ⟨dx, d, c, r, kvs, us, ws, h1, h2, h3, h4, h5, h6, h7, h8, h9⟩ := h.ex
  exact ⟨dx, d, c, r, kvs, us, ws, s _ _ h1, s _ _ h2, s _ _ h3, s _ _ h4, h5, h6, h7, RepAll.mono s _ h8, h9⟩
/-- a question put to a gate that has just these parts -/
def spStates (K : PySem.W.Frag) (C : Addr) : Sp := fun vs H Q _ => ∃ (x : Addr) (n : Int) (ds cs : List Str) (rs : List Rl), vs = [.ref x] ∧ GateAt K C H x n ds cs rs ∧ Q (.int n) H
def spDoors (K : PySem.W.Frag) (C : Addr) : Sp := fun vs H Q _ => ∃ (x : Addr) (n : Int) (ds cs : List Str) (rs : List Rl), vs = [.ref x] ∧ GateAt K C H x n ds cs rs ∧
  ∀ (p : Addr) (us : List Str), H p = none → sortD (ds.map Dat.str) = us.map Dat.str → Q (.ref p) (upd H p (.lst (us.map .str)))
def spCloset (K : PySem.W.Frag) (C : Addr) : Sp := fun vs H Q _ => ∃ (x : Addr) (n : Int) (ds cs : List Str) (rs : List Rl), vs = [.ref x] ∧ GateAt K C H x n ds cs rs ∧
  ∀ (p : Addr) (us : List Str), H p = none → sortD (cs.map Dat.str) = us.map Dat.str → Q (.ref p) (upd H p (.lst (us.map .str)))
def spRules (K : PySem.W.Frag) (C : Addr) : Sp := fun vs H Q _ => ∃ (x : Addr) (n : Int) (ds cs : List Str) (rs : List Rl), vs = [.ref x] ∧ GateAt K C H x n ds cs rs ∧
  ∀ (p : Addr) (ys : List V) (H' : Hp), H p = none → Same H H' → H' p = some (.lst ys) → RepAll K H ys (sortD (rs.map Rl.dat)) → Q (.ref p) H'
theorem ord_rules (rs : List Rl) : Ord (rs.map Rl.dat) := by
  refine ⟨fun d hd => ?_, fun d hd e he => ?_, .inl fun d hd => ?_, fun d hd => ?_⟩
  · obtain ⟨r, _, rfl⟩ := List.mem_map.mp hd
    have : pureAll (r.told.map Dat.str) = true := by rw [pureAll_all, List.all_map]; exact List.all_eq_true.mpr fun _ _ => rfl
    simp [Rl.dat, Dat.pure, pureAll, this]
  · rw [List.map_map] at hd he
    obtain ⟨r, _, rfl⟩ := List.mem_map.mp hd
    obtain ⟨q, _, rfl⟩ := List.mem_map.mp he
    have al : ∀ xs ys : List Str, PySem.W.alikeAll (pyAll (xs.map Dat.str)) (pyAll (ys.map Dat.str)) = true := by
      intro xs
      induction xs with
      | nil => intro ys; simp [pyAll, PySem.W.alikeAll]
      | cons x xs ih =>
        intro ys
        cases ys with
        | nil => simp [pyAll, PySem.W.alikeAll]
        | cons y ys => simpa [pyAll, Dat.py, PySem.W.alikeAll, alike] using ih ys
    simp [Rl.dat, Dat.py, pyAll, alike, PySem.W.alikeAll, al]
  · rw [List.map_map] at hd
    obtain ⟨r, _, rfl⟩ := List.mem_map.mp hd
    exact ⟨.str r.door, _, rfl⟩
  · obtain ⟨r, _, rfl⟩ := List.mem_map.mp hd
    have dp : ∀ xs : List Str, PyData.depthAll (pyAll (xs.map Dat.str)) ≤ 1 := by
      intro xs
      induction xs with
      | nil => simp [pyAll, PyData.depthAll]
      | cons x xs ih =>
        simp only [List.map_cons, pyAll, Dat.py, PyData.depthAll, PyData.depth]
        omega
    have := dp r.told
    simp only [Rl.dat, Dat.py, pyAll, PyData.depth, PyData.depthAll]
    omega
section
variable {P : Program} {w : World} {K : PySem.W.Frag} {mg : Str → Option Value} {base : Heap}
abbrev s_Gate_states : Stmt := inClass (top 10) 2
theorem sc_Gate_states : FnScope ["self"] ["self"] (defScope s_Gate_states) := ⟨rfl, rfl, rfl, by decide +kernel, rfl, by decide +kernel, by decide +kernel⟩
theorem ok_states {f C : Addr} {fd : FuncData} (F : Fun K "states" "Gate.states" s_Gate_states f fd) (gc : GCls K C) : FnOk P w K mg base CX0 1 f fd ["self"] (spStates K C) := by
  refine F.ok sc_Gate_states (fun vs H Q E h => ?_) (fun cdv A outer s H vs Q E hr h => ?_)
  · obtain ⟨x, n, ds, cs, rs, rfl, _⟩ := h
    rfl
  · obtain ⟨x, n, ds, cs, rs, rfl, hx, k⟩ := h
    obtain ⟨dx, d, c, r, kvs, us, ws, h1, h2, h3, h4, h5, h6, h7, h8, h9, h10⟩ := hx.ex
    refine ⟨_, (pss_one (ps_ret (pe_fld (pv 0) rfl))), ?_⟩
    exact ⟨_, rfl, x, C, dx, _, _, rfl, h1, gc.cl, gc.n1, rfl, k⟩
abbrev s_Gate_doors : Stmt := inClass (top 10) 3
theorem sc_Gate_doors : FnScope ["self"] ["self"] (defScope s_Gate_doors) := ⟨rfl, rfl, rfl, by decide +kernel, rfl, by decide +kernel, by decide +kernel⟩
theorem ok_doors {f C : Addr} {fd : FuncData} (F : Fun K "doors" "Gate.doors" s_Gate_doors f fd) (T : Bl mg) (gc : GCls K C) : Fn P w K mg base CX0 1 f fd ["self"] (spDoors K C) := by
  refine fn_calm F sc_Gate_doors (fun vs H Q E h => ?_) (fun cdv A outer s H vs Q E hc hr h => ?_)
  · obtain ⟨x, n, ds, cs, rs, rfl, _⟩ := h
    rfl
  · obtain ⟨x, n, ds, cs, rs, rfl, hx, k⟩ := h
    obtain ⟨dx, d, c, r, kvs, us, ws, h1, h2, h3, h4, h5, h6, h7, h8, h9, h10⟩ := hx.ex
    refine ⟨_, (pss_one (ps_ret (pe_callTy call_list_of (by rfl) T.listN (by decide +kernel) (pa_cons (pe_fld (pv 0) rfl) pa_nil)))), ?_⟩
    exact ⟨_, rfl, x, C, dx, _, _, rfl, h1, gc.cl, gc.n2, rfl, d, _, rfl, .inl (SqL.of h2), fun p hp => k p us hp h9⟩
abbrev s_Gate_closet : Stmt := inClass (top 10) 4
theorem sc_Gate_closet : FnScope ["self"] ["self"] (defScope s_Gate_closet) := ⟨rfl, rfl, rfl, by decide +kernel, rfl, by decide +kernel, by decide +kernel⟩
theorem ok_closet {f C : Addr} {fd : FuncData} (F : Fun K "closet" "Gate.closet" s_Gate_closet f fd) (T : Bl mg) (gc : GCls K C) : Fn P w K mg base CX0 1 f fd ["self"] (spCloset K C) := by
  refine fn_calm F sc_Gate_closet (fun vs H Q E h => ?_) (fun cdv A outer s H vs Q E hc hr h => ?_)
  · obtain ⟨x, n, ds, cs, rs, rfl, _⟩ := h
    rfl
  · obtain ⟨x, n, ds, cs, rs, rfl, hx, k⟩ := h
    obtain ⟨dx, d, c, r, kvs, us, ws, h1, h2, h3, h4, h5, h6, h7, h8, h9, h10⟩ := hx.ex
    refine ⟨_, (pss_one (ps_ret (pe_callTy call_list_of (by rfl) T.listN (by decide +kernel) (pa_cons (pe_fld (pv 0) rfl) pa_nil)))), ?_⟩
    exact ⟨_, rfl, x, C, dx, _, _, rfl, h1, gc.cl, gc.n3, rfl, c, _, rfl, .inl (SqL.of h3), fun p hp => k p ws hp h10⟩
abbrev s_Gate_rules : Stmt := inClass (top 10) 5
theorem sc_Gate_rules : FnScope ["self"] ["self"] (defScope s_Gate_rules) := ⟨rfl, rfl, rfl, by decide +kernel, rfl, by decide +kernel, by decide +kernel⟩
theorem ok_rules {f C : Addr} {fd : FuncData} (F : Fun K "rules" "Gate.rules" s_Gate_rules f fd) (T : Bl mg) (gc : GCls K C) : Fn P w K mg base CX0 1 f fd ["self"] (spRules K C) := by
  refine fn_calm F sc_Gate_rules (fun vs H Q E h => ?_) (fun cdv A outer s H vs Q E hc hr h => ?_)
  · obtain ⟨x, n, ds, cs, rs, rfl, _⟩ := h
    rfl
  · obtain ⟨x, n, ds, cs, rs, rfl, hx, k⟩ := h
    obtain ⟨dx, d, c, r, kvs, us, ws, h1, h2, h3, h4, h5, h6, h7, h8, h9, h10⟩ := hx.ex
    have hu64 := hr.units
    refine ⟨_, (pss_one (ps_ret (pe_callB (call_sorted hu64) (by rfl) T.sortedN (by decide +kernel) (pa_cons (pe_callTy (call_listVals rfl) (by rfl) T.listN (by decide +kernel) (pa_cons (pe_bm0 PySem.F.plainAttrs_dict PySem.F.slot_dict_values PySem.F.type_dict_values mt_valsT (pe_fld (pv 0) rfl)) pa_nil)) pa_nil)))), ?_⟩
    refine ⟨_, rfl, x, C, dx, _, _, rfl, h1, gc.cl, gc.n4, rfl, .inr (.inr (.inl ⟨rfl, .inr ⟨kvs, h4⟩⟩)), r, kvs, rfl, rfl, h4, fun p hp => ?_⟩
    have s1 : Same H (upd H p (valsO p r)) := same_upd hp
    refine ⟨p, r, kvs, rfl, upd_same, s1 _ _ h4, fun q hq => ?_⟩
    have s2 : Same (upd H p (valsO p r)) _ := same_upd (o := .lst (kvs.map (·.2))) hq
    refine ⟨q, _, rs.map Rl.dat, H, rfl, upd_same, s1.trans s2, h8, ord_rules rs, fun l ys hl ry _ => ?_⟩
    exact k l ys _ ((s1.trans s2).free hl) ((s1.trans s2).trans (same_upd hl)) upd_same ry
end
end K

set_option Elab.async false
set_option linter.all false
set_option maxRecDepth 100000
set_option maxHeartbeats 4000000
/-! x != y, x an instance whose class has an == of its own and object's !=. -/
namespace Ne
open PySem PySem.Spec PyProof.Rows L2 G D L S C Sx Kx Ex
section
variable {prog : Program} {w : World} {A : Around} {E : Value → Shared → Prop} {s : Shared} {K : PySem.W.Frag} {x C f : Addr} {ox : Obj} {od : Option Obj} {b : Value}
theorem entry {Q : Fin → Shared → Prop} (hu : A.units < cLine) (X : K.In s.heap) (I : PySem.W.InstAt s.heap x ox C od) (hs : PySem.W.findIn K (.ref C) "__eq__" = some (some (.ref f))) (hf : PySem.W.isFn K (.ref f) = true)
    (h : wpAny (model prog w) A (call (.ref f) [.ref x, b]) (fun v s' => ∃ c, v = .bool c ∧ Q (.done (.ret (.bool (!c)))) s') E s) : wpAny (model prog w) A (Builtin.«object.__ne__» ⟨[.ref x, b], []⟩) Q E s := by
  unfold Builtin.«object.__ne__»
  repeat (first
    | with_reducible refine wpAny_cRoomFor hu ?_
    | (refine wpAny_bind (m := callSpecialIfBound? (.ref x) (Str.ofString "__eq__") [b])
        (PySem.W.ifBound_K X I hs hf (wpAny_mono h (fun r s' hr => by
          obtain ⟨c, rfl, hq⟩ := hr
          repeat (first | exact hq | exact wpAny_pure hq | exact wpAny_truthy_bool hq | (refine wpAny_bind (m := truthy (.bool _)) (wpAny_truthy_bool ?_)) | wp_step)) fun _ _ e => e)))
    | wp_step)
theorem call_ne {Q : Value → Shared → Prop} (hu : A.units + 1 < cLine) (X : K.In s.heap) (I : PySem.W.InstAt s.heap x ox C od) (hm : PySem.W.mroIn K C (.type "object") = some true)
    (hs : PySem.W.findIn K (.ref C) "__eq__" = some (some (.ref f))) (hf : PySem.W.isFn K (.ref f) = true)
    (h : wpAny (model prog w) A.in1 (call (.ref f) [.ref x, b]) (fun v s' => ∃ c, v = .bool c ∧ Q (.bool (!c)) s') E s) : wpAny (model prog w) A (call (.builtin "object.__ne__") [.ref x, b]) Q E s :=
  wpAny_call (codeAny_call_builtin F.cmp_object.ne.plain F.cmpEntry_ne (PySem.W.check_slot F.cmpKind_ne F.cmpSplit_ne (I.type.andThen (PySem.W.looks_mroIn X hm)) (F.cmpArgs_ne _ _) (entry (A := A.in1) hu X I hs hf h)))
theorem ifBound_ne {args : List Value} {Q : Option Value → Shared → Prop} {M : Model} (X : K.In s.heap) (I : PySem.W.InstAt s.heap x ox C od) (hs : PySem.W.findIn K (.ref C) "__ne__" = some (some (.builtin "object.__ne__")))
    (h : wpAny M A (call (.builtin "object.__ne__") (.ref x :: args)) (fun v => Q (some v)) E s) : wpAny M A (callSpecialIfBound? (.ref x) "__ne__" args) Q E s := by
  simp only [callSpecialIfBound?, bindSpecialIfBound?]
  refine wpAny_holding (wpAny_bind (wpAny_bind (wpAny_bind (I.type.here ((PySem.W.looks_findIn X hs).here ?_)))))
  refine wpAny_bind (wpAny_askSetting (wpAny_ite ?_))
  have fin : wpAny M A (call (.builtin "object.__ne__") ([.ref x] ++ args) >>= fun v => pure (some v)) Q E s := wpAny_bind (wpAny_mono h (fun v s' h' => wpAny_pure h') fun _ _ h' => h')
  split
  · exact wpAny_bind (wpAny_of_eq (F.cmp_object.ne.bind _) (wpAny_pure (by exact fin)))
  · exact wpAny_tryCatch (wpAny_bind (wpAny_of_eq (F.cmp_object.ne.bind _) (wpAny_pure (by exact fin))))
theorem rich_ne {Q : Value → Shared → Prop} (hu : A.units + 1 < cLine) (X : K.In s.heap) (I : PySem.W.InstAt s.heap x ox C od) (hb : PySem.W.Looks (model prog w) s.heap (typeOf b) (.ref C)) (hm : PySem.W.mroIn K C (.type "object") = some true)
    (hs : PySem.W.findIn K (.ref C) "__eq__" = some (some (.ref f))) (hf : PySem.W.isFn K (.ref f) = true) (hn : PySem.W.findIn K (.ref C) "__ne__" = some (some (.builtin "object.__ne__")))
    (h : wpAny (model prog w) A.in1 (call (.ref f) [.ref x, b]) (fun v s' => ∃ c, v = .bool c ∧ Q (.bool (!c)) s') E s) : wpAny (model prog w) A (richCompare .NotEq (.ref x) b) Q E s := by
  have one : wpAny (model prog w) A (tryCompare (.ref x) "__ne__" b) (fun r s' => ∃ c, r = some (.bool c) ∧ Q (.bool c) s') E s := by
    unfold tryCompare
    refine wpAny_bind (ifBound_ne X I hn (call_ne hu X I hm hs hf (wpAny_mono h (fun v s' hv => ?_) fun _ _ e => e)))
    obtain ⟨c, rfl, hq⟩ := hv
    refine ⟨c, rfl, ?_⟩
    exact wpAny_pure ⟨!c, rfl, hq⟩
  unfold richCompare
  simp only [oneThing_ref]
  refine wpAny_holding (wpAny_bind (wpAny_cRoomFor (by omega) ?_))
  rw [cmpInfo_NotEq]
  dsimp only
  refine wpAny_bind (I.type.here (wpAny_bind (hb.here ?_)))
  rw [show (Value.ref C != Value.ref C) = false from by simp]
  simp only [Bool.false_eq_true, if_false]
  refine wpAny_bind (wpAny_pure ?_)
  simp only [Bool.false_eq_true, if_false]
  refine wpAny_bind (wpAny_mono one (fun v s' hv => ?_) fun _ _ e => e)
  obtain ⟨c, rfl, hq⟩ := hv
  exact wpAny_pure hq
end
section
variable {X : Cx} {k : Nat} {C : Addr} {ps : List Str} {sp : Sp}
/-- x != y, both instances of the class at C -/
def rNeO (C : Addr) (sp : Sp) : R2 := fun x y H Q => ∃ a dx fs a2 dx2 fs2, x = .ref a ∧ H a = some (.ins C dx fs) ∧ y = .ref a2 ∧ H a2 = some (.ins C dx2 fs2) ∧
  sp [x, y] H (fun v H' => ∃ b, v = .bl b ∧ Q (.bl (!b)) H') E0
theorem op_neO (M : EqM X.prog X.w X.K X.mg X.base k C ps sp) (hc : Calm X.A) (hr : Room (k + 1) X.A) (hm : PySem.W.mroIn X.K C (.type "object") = some true) (hn : PySem.W.findIn X.K (.ref C) "__ne__" = some (some (.builtin "object.__ne__"))) : OpR X (compareOp .NotEq) (rNeO C sp) := by
  intro pins s σ H x y v u Q I rx ry h
  obtain ⟨a, dx, fs, a2, dx2, fs2, rfl, ha, rfl, ha2, q⟩ := h
  cases (show v = Value.ref a from rx)
  cases (show u = Value.ref a2 from ry)
  obtain ⟨mA, J, _⟩ := ins_get I.hok ha
  obtain ⟨od, J, _⟩ := J.look
  obtain ⟨mB, J', _⟩ := ins_get I.hok ha2
  obtain ⟨od', J', _⟩ := J'.look
  have hr1 : Room k X.A.in1 := hr.in1
  have hu : X.A.units + 1 < cLine := hr1.units0
  refine rich_ne hu I.kIn J J'.type hm M.hs M.hf hn ?_
  have rv : Vals [V.ref a, V.ref a2] [Value.ref a, Value.ref a2] := .cons rfl (.cons rfl .nil)
  have hl : ([Value.ref a, Value.ref a2] : List Value).length = ps.length := (rv.length.symm).trans (M.ok.len _ _ _ _ q)
  have go := M.ok.go X.A.in1 X.stack s H ⟨[.ref a, .ref a2], []⟩ _ _ _ E0 hc hr1 I.env0.in1 (M.b s _ I.kIn hl) rv q
  refine wpAny_call (codeAny_mono go ?_)
  rintro (e | fl) s' hq
  · exact pass0 pins σ H s e s' I hq
  · cases fl with
    | ret u =>
      obtain ⟨z, H', I', rz, b, rfl, qb⟩ := I.after hq
      cases (show u = Value.bool b from rz)
      exact ⟨b, rfl, .bl (!b), H', I', rfl, qb⟩
    | next => exact False.elim hq
    | brk => exact False.elim hq
    | cont => exact False.elim hq
end
end Ne

set_option Elab.async false
set_option linter.all false
set_option maxRecDepth 100000
set_option maxHeartbeats 4000000
/-! sorted(..) of a dict whose keys are tuples. -/
namespace S
open PySem PySem.Spec PyProof.Rows L2 G D L
open PySem.W hiding Dat
/-- a key as a datum -/
def keyDat (k : List Key) : Dat := .tup (k.map fun q => match q with | .inl i => .int i | .inr x => .str x)
theorem rep_key {K : PySem.W.Frag} {H : Hp} {a : Addr} {k : List Key} (h : H a = some (.tup (k.map kV))) : Rep K H (.ref a) (keyDat k) := by
  refine ⟨a, _, rfl, h, ?_⟩
  clear h
  induction k with
  | nil => exact rfl
  | cons q k ih =>
    cases q with
    | inl i => exact ⟨_, _, rfl, rfl, ih⟩
    | inr x => exact ⟨_, _, rfl, rfl, ih⟩
theorem key_rep {K : PySem.W.Frag} {H : Hp} {v : V} {k : List Key} (h : Rep K H v (keyDat k)) : ∃ a, v = .ref a ∧ H a = some (.tup (k.map kV)) := by
  obtain ⟨a, xs, rfl, ha, hs⟩ := h
  refine ⟨a, rfl, ?_⟩
  rw [ha]
  clear ha
  have : xs = k.map kV := by
    induction k generalizing xs with
    | nil => exact hs
    | cons q k ih =>
      obtain ⟨v, r, rfl, hv, hr⟩ := hs
      rw [ih _ hr]
      cases q with
      | inl i => rw [show v = V.int i from hv]; rfl
      | inr x => rw [show v = V.str x from hv]; rfl
  rw [this]
theorem keys_rep {K : PySem.W.Frag} {H : Hp} {kvs : List (List Key × V)} {bs : List Addr} (h : IsKeys H kvs bs) : RepAll K H (bs.map V.ref) (kvs.map fun p => keyDat p.1) := by
  unfold IsKeys at h
  induction h with
  | nil => exact rfl
  | cons a _ ih => exact ⟨_, _, rfl, rep_key a, ih⟩
/-- what stands outside of F are no tuples -/
def TupF (F H : Hp) : Prop := ∀ p xs, H p = some (.tup xs) → F p = some (.tup xs)
theorem keys_in {K : PySem.W.Frag} {F H : Hp} (t : TupF F H) : ∀ {ks : List (List Key)} {xs : List V}, RepAll K H xs (ks.map keyDat) → RepAll K F xs (ks.map keyDat)
  | [], _, h => h
  | k :: ks, xs, ⟨v, r, e, h1, h2⟩ => by
    obtain ⟨a, rfl, ha⟩ := key_rep h1
    exact ⟨_, r, e, rep_key (t _ _ ha), keys_in t h2⟩
section
variable {X : Cx}
/-- sorted(..) of a dict with tuple keys -/
def rSortedT (K : PySem.W.Frag) : List V → Hp → VK → Prop := fun vs H Q => ∃ a kvs, vs = [.ref a] ∧ Rd H a (.dT kvs) ∧ Ord (kvs.map fun p => keyDat p.1) ∧
  ∀ p ys, H p = none → RepAll K H ys (sortD (kvs.map fun p => keyDat p.1)) → ys.length = kvs.length → Q (.ref p) (upd H p (.lst ys))
theorem call_sortedT (hc : X.calm = true) (hu : X.A.units + 64 < cLine) : CallR X (.builtin "sorted") (rSortedT X.K) := by
  intro pins s σ H vs us Q I r h
  obtain ⟨d, kvs, rfl, hd, od, q⟩ := h
  obtain ⟨u, rfl, ru⟩ := vals1 r
  cases (show u = Value.ref d from ru)
  obtain ⟨z, hs, ks, pr, o, es, ep, ho, hx, hdt, he, hn⟩ := (show ObjOk X.prog X.w H s.heap d (.dT kvs) from hd.ok I.hok)
  have l1 : es.size = ks.length := size_of_entries he
  have l2 : kvs.length = ks.length := Paired.length pr
  refine Calls.call_function_entry PyProof.Rows.kind_sorted PyProof.Rows.plain_sorted PyProof.Rows.entry_sorted (PyProof.Rows.args_sorted1 _) ?_
  unfold Builtin.«sorted»
  refine wpAny_bind (m := checkCount "sorted" 1 1 _) (wpAny_pure ?_)
  refine wpAny_bind (PySem.W.kdu_collect (A := X.A.in1) (kdl_raw hs hx hdt) (I.ok.hd hc) ho (by omega) fun h' tk acc hk it => ?_)
  have ea : acc.toList = ks.map fun x => Value.ref x.2.1 := by
    have hl : acc.toList.length = ks.length := by rw [Array.length_toList, it.1]; exact l1
    apply List.ext_getElem?
    intro j
    rw [List.getElem?_map]
    cases hj : acc.toList[j]? with
    | none =>
      have h1 := List.getElem?_eq_none_iff.mp hj
      rw [List.getElem?_eq_none (by omega)]
      all_goals rfl
    | some v =>
      obtain ⟨en, hen, hv⟩ := it.2 j v (by rw [← Array.getElem?_toList]; exact hj)
      have qe := entry_at he j
      rw [hen] at qe
      cases hb : ks[j]? with
      | none =>
        rw [hb] at qe
        exact nomatch (show some en = none from qe)
      | some b =>
        rw [hb] at qe
        have e2 : en = entryOfKey (tupleKind (mixKind X.prog X.w)) b := Option.some.inj qe
        rw [hv, e2]
        all_goals rfl
  have eb : acc.toList = (ks.map fun x => x.2.1).map Value.ref := by rw [ea, List.map_map]; all_goals rfl
  have rv : Vals ((ks.map fun x => x.2.1).map V.ref) acc.toList := by rw [eb]; exact vals_refs _
  have rk : RepAll X.K H ((ks.map fun x => x.2.1).map V.ref) (kvs.map fun p => keyDat p.1) := keys_rep (isKeys_of pr)
  have I1 : Inv X pins σ H { s with heap := h', toks := tk } := I.kept hk
  have e1 := each_rep rk rv
  have hal : acc.toList.length = (kvs.map fun p => keyDat p.1).length := e1.length
  have hL : acc.toList.length ≤ sizeLine := by rw [hal, List.length_map]; omega
  have e2 : EachIs (fun v d => ∃ as, Reads h' v (D.Dat.py d) as) acc.toList (kvs.map fun p => keyDat p.1) := by
    have : ∀ {ds : List Dat} {vs : List Value}, (∀ d ∈ ds, d.pure = true) → EachIs (fun v d => ∃ x, RelV x v ∧ Rep X.K H x d) vs ds → EachIs (fun v d => ∃ as, Reads h' v (D.Dat.py d) as) vs ds := by
      intro ds vs hp e
      induction e with
      | nil => exact .nil
      | @cons v d vs ds a _ ih =>
        obtain ⟨x, r, p⟩ := a
        obtain ⟨as, q, _⟩ := Rep.reads I1 d x v p (hp d List.mem_cons_self) r
        exact .cons ⟨as, q⟩ (ih fun y hy => hp y (List.mem_cons_of_mem _ hy))
    exact this od.pu e1
  refine wpAny_bind (wpAny_newList ?_ hL)
  have hoL : (h'.push (seqObj "list" acc.toList.toArray 0)).get? h'.objs.size = some (seqObj "list" acc.toList.toArray 0) := Heap.get?_push_size _ rfl
  show wpAny _ _ _ _ _ { s with heap := h'.push (seqObj "list" acc.toList.toArray 0), toks := tk }
  have old : ∀ b o, h'.get? b = some o → (sortingHeap (h'.push (seqObj "list" acc.toList.toArray 0)) h'.objs.size acc.toList).get? b = some o := fun b o e =>
    sortingHeap_old (Nat.ne_of_lt (Heap.lt_size e)) (Heap.get?_push_of_some _ e)
  have e3 : EachIs (fun v d => ∃ as, Reads (sortingHeap (h'.push (seqObj "list" acc.toList.toArray 0)) h'.objs.size acc.toList) v (D.Dat.py d) as) acc.toList (kvs.map fun p => keyDat p.1) :=
    e2.mono fun _ _ ⟨as, r⟩ => ⟨as, PyProof.Rows.Reads.keeps old r⟩
  refine wpAny_bind (wpAny_holding (wpAny_call_entry_kw PySem.F.slot_list_sort ⟨_, hoL, rfl⟩ PySem.F.entry_list_sort ?body (args_list_sort _)))
  case body =>
    have S := SortsAt.data (prog := X.prog) (w := X.w) (A := X.A.in1.in1) (s := { s with heap := sortingHeap (h'.push (seqObj "list" acc.toList.toArray 0)) h'.objs.size acc.toList, toks := tk })
      (each_map (R := fun v d => ∃ as, Reads (sortingHeap (h'.push (seqObj "list" acc.toList.toArray 0)) h'.objs.size acc.toList) v d as) D.Dat.py e3) od.al od.so (fun d hd => by obtain ⟨e, he, rfl⟩ := List.mem_map.mp hd; have := od.dp e he; simp only [Around.in1]; omega)
    refine list_sort_vals (s := { s with heap := h'.push (seqObj "list" acc.toList.toArray 0), toks := tk }) hoL S hL ⟨_, rfl, ?_⟩
    have eo := sortVals_data (R := fun v d => ∃ x, RelV x v ∧ Rep X.K H x d) (enc := Dat.py) false e1 e3 od.al
    obtain ⟨ys, ry, vy⟩ := rep_each eo
    have ol : ys.length = kvs.length := by
      rw [vy.length, sortVals_length false rfl, hal, List.length_map]
    obtain ⟨e', he'⟩ := PyProof.Rows.sortedHeap_at (vs := acc.toList) (out := (sortVals (dataKind (sortingHeap (h'.push (seqObj "list" acc.toList.toArray 0)) h'.objs.size acc.toList) ((kvs.map fun p => keyDat p.1).map Dat.py)) false acc.toList acc.toList).toArray) hoL
    have hlen : ys.length ≤ sizeLine := by rw [ol]; omega
    refine wpAny_pure ⟨_, rfl, .ref h'.objs.size, upd H h'.objs.size (.lst ys), I1.laid (t' := tk) (fun b u e => ?_) (Nat.le_refl _)
      (show ObjOk X.prog X.w _ _ _ (.lst ys) from ⟨hlen, _, e', vy, he'⟩), rfl, q _ ys (I1.hok.fresh (Nat.le_refl _)) ry ol⟩
    have hb : b < h'.objs.size := Heap.lt_size e
    rw [PyProof.Rows.sortedHeap_old (Nat.ne_of_lt hb) (by rw [size_push']; exact Nat.lt_succ_of_lt hb)]
    exact Heap.get?_push_of_some _ e
end
end S

set_option Elab.async false
set_option linter.all false
set_option maxRecDepth 100000
set_option maxHeartbeats 8000000
namespace K
open PySem PySem.Spec PyProof.Rows L2 G D L S C Sx Kx Ex Lt Qe De Er Ne
open Fz hiding Fr
open C8 (pss_cut tCut)
open PySem.W (dataLt alike AllAlike Sortable)
/-- a short text of plain letters -/
structure Tx (x : Str) : Prop where
  len : x.length ≤ 8
  cp : ∀ c ∈ x.cps.toList, c < 1000
def txB (x : Str) : Bool := decide (x.length ≤ 8) && x.cps.toList.all fun c => decide (c < 1000)
theorem tx_of {x : Str} (h : txB x = true) : Tx x := by
  unfold txB at h
  simp only [Bool.and_eq_true, decide_eq_true_eq, List.all_eq_true] at h
  exact ⟨h.1, h.2⟩
theorem tx_name {x : Str} (h : nameOk x = true) : Tx x := by
  unfold nameOk at h
  simp only [Bool.and_eq_true, decide_eq_true_eq, List.all_eq_true] at h
  refine ⟨h.1.2, fun c hc => ?_⟩
  have := h.2 c hc
  unfold lower at this
  simp only [Bool.and_eq_true, decide_eq_true_eq] at this
  omega
theorem Tx.fine {x : Str} (h : Tx x) : Fine 1 82 (.str x) := by
  refine fine_str ?_
  have := StrLaws.reprText_len x (fun c hc => Nat.lt_trans (h.cp c hc) (by decide))
  have := h.len
  omega
theorem Tx.ok {x : Str} (h : Tx x) : PyData.strOk x = true := by
  unfold PyData.strOk
  rw [← Array.all_toList, List.all_eq_true]
  exact fun c hc => decide_eq_true (Nat.lt_trans (h.cp c hc) (by decide))
theorem fine_state {i : Int} (h0 : 0 ≤ i) (h1 : i < 64) : Fine 1 5 (.int i) := by
  have : ∀ i : Fin 64, fineB 1 5 (.int ((i.val : Int))) = true := by decide +kernel
  have q := fine_of (this ⟨i.toNat, by omega⟩)
  have e : ((i.toNat : Nat) : Int) = i := Int.toNat_of_nonneg h0
  simp only [e] at q
  exact q
theorem kind_tx {cs : List Str} (nc : Names cs) {k : Str} (h : k ∈ cs ++ (["", "?"] : List Str)) : Tx k := by
  rcases List.mem_append.mp h with h | h
  · exact tx_name (nc.ok _ h)
  · simp only [List.mem_cons, List.not_mem_nil, or_false] at h
    rcases h with rfl | rfl <;> exact tx_of (by decide +kernel)
theorem ord_keys (rs : List Rl) : Ord ((rs.map Rl.key).map keyDat) := by
  have form : ∀ d ∈ (rs.map Rl.key).map keyDat, ∃ (a : Str) (i : Int) (b : Str), d = .tup [.str a, .int i, .str b] := by
    intro d hd
    rw [List.map_map] at hd
    obtain ⟨r, _, rfl⟩ := List.mem_map.mp hd
    exact ⟨r.door, r.state, r.kind, rfl⟩
  refine ⟨fun d hd => ?_, fun d hd e he => ?_, .inl fun d hd => ?_, fun d hd => ?_⟩
  · obtain ⟨a, i, b, rfl⟩ := form d hd
    rfl
  · obtain ⟨d', hd', rfl⟩ := List.mem_map.mp hd
    obtain ⟨e', he', rfl⟩ := List.mem_map.mp he
    obtain ⟨a, i, b, rfl⟩ := form d' hd'
    obtain ⟨a', i', b', rfl⟩ := form e' he'
    simp [Dat.py, pyAll, alike, PySem.W.alikeAll]
  · obtain ⟨d', hd', rfl⟩ := List.mem_map.mp hd
    obtain ⟨a, i, b, rfl⟩ := form d' hd'
    exact ⟨.str a, _, rfl⟩
  · obtain ⟨a, i, b, rfl⟩ := form d hd
    simp [Dat.py, pyAll, PyData.depth, PyData.depthAll]
theorem eqv_strs : ∀ us ws : List Str, PyData.eqvAll (pyAll (us.map Dat.str)) (pyAll (ws.map Dat.str)) = decide (us = ws)
  | [], [] => rfl
  | [], _ :: _ => rfl
  | _ :: _, [] => rfl
  | u :: us, w :: ws => by
    show (PyData.eqv (.str u) (.str w) && PyData.eqvAll (pyAll (us.map Dat.str)) (pyAll (ws.map Dat.str))) = _
    rw [eqv_strs us ws]
    show ((u == w) && _) = _
    rw [Bool.eq_iff_iff]
    simp
theorem eqv_rule (r q : Rl) : PyData.eqv r.dat.py q.dat.py = true ↔ r = q := by
  obtain ⟨a, i, b, j, c, ts⟩ := r
  obtain ⟨a', i', b', j', c', ts'⟩ := q
  show ((a == a') && ((i == i') && ((b == b') && ((j == j') && ((c == c') && (PyData.eqvAll (pyAll (ts.map Dat.str)) (pyAll (ts'.map Dat.str)) && true)))))) = true ↔ _
  rw [eqv_strs]
  simp
/-- sorted texts -/
def sortS (ds : List Str) : List Str := (sortD (ds.map Dat.str)).map strOf
theorem sortS_eq {ds us : List Str} (h : sortD (ds.map Dat.str) = us.map Dat.str) : sortS ds = us := by
  unfold sortS
  rw [h, List.map_map, show (strOf ∘ Dat.str) = id from rfl, List.map_id]
def sameG (n : Int) (ds cs : List Str) (rs : List Rl) (n' : Int) (ds' cs' : List Str) (rs' : List Rl) : Bool :=
  decide (n = n') && (decide (sortS ds = sortS ds') && (decide (sortS cs = sortS cs') && (rs.length == rs'.length && likeB (rs'.map Rl.key) (rs'.map Rl.dat) (rs.map Rl.key) (rs.map Rl.dat))))
/-- texts fit to be compared -/
def TxtOk (ws : List Str) : Prop := ∀ w ∈ ws, PyData.strOk w = true
def spEq (K : PySem.W.Frag) (C : Addr) : Sp := fun vs H Q _ => ∃ (x : Addr) (n : Int) (ds cs : List Str) (rs : List Rl) (y : V), vs = [.ref x, y] ∧ GateAt K C H x n ds cs rs ∧
  ((∃ d : Dat, Rep K H y d ∧ PySem.W.kitOne K d.ty (.ref C) = some false ∧ Q (.bl false) H) ∨
    ∃ (x' : Addr) (n' : Int) (ds' cs' : List Str) (rs' : List Rl), y = .ref x' ∧ GateAt K C H x' n' ds' cs' rs' ∧ TxtOk ds ∧ TxtOk cs ∧ TxtOk ds' ∧ TxtOk cs' ∧ (∀ r ∈ rs, Cm r.dat) ∧ (∀ r ∈ rs', Cm r.dat) ∧ Q (.bl (sameG n ds cs rs n' ds' cs' rs')) H)
theorem lay_strs {ws : List Str} (h : TxtOk ws) : SeqAt.shaped (Dat.lst (ws.map .str)).py = true := by
  have e1 : PyData.canLayAll0 (pyAll (ws.map Dat.str)) = true := by
    induction ws with
    | nil => rfl
    | cons w ws ih =>
      show (PyData.canLay0 (.str w) && PyData.canLayAll0 (pyAll (ws.map Dat.str))) = true
      rw [ih fun z hz => h z (List.mem_cons_of_mem _ hz)]
      simpa [PyData.canLay0] using h w List.mem_cons_self
  have dp : ∀ xs : List Str, PyData.depthAll (pyAll (xs.map Dat.str)) ≤ 1 := by
    intro xs
    induction xs with
    | nil => simp [pyAll, PyData.depthAll]
    | cons x xs ih =>
      simp only [List.map_cons, pyAll, Dat.py, PyData.depthAll, PyData.depth]
      omega
  have := dp ws
  unfold SeqAt.shaped
  simp only [Dat.py, PyData.canLay0, PyData.depth, Bool.and_eq_true, decide_eq_true_eq]
  exact ⟨e1, by omega⟩
theorem rep_strs {K : PySem.W.Frag} {H : Hp} {p : Addr} {ws : List Str} (h : H p = some (.lst (ws.map .str))) : Rep K H (.ref p) (.lst (ws.map .str)) := ⟨p, ws.map .str, rfl, h, RepAll.of_strs ws⟩
section
variable {P : Program} {w : World} {K : PySem.W.Frag} {mg : Str → Option Value} {base : Heap}
abbrev s_Gate___eq__ : Stmt := inClass (top 10) 1
theorem sc_Gate___eq__ : FnScope ["self", "other"] ["self", "other"] (defScope s_Gate___eq__) := ⟨rfl, rfl, rfl, by decide +kernel, rfl, by decide +kernel, by decide +kernel⟩
theorem ok_eq {f C : Addr} {fd : FuncData} (F : Fun K "__eq__" "Gate.__eq__" s_Gate___eq__ f fd) (T : Bl mg) (hG : mg "Gate" = some (.ref C)) (gc : GCls K C) (o : OwnC K C)
    (kt : PySem.W.kitOne K (.ref C) (.ref C) = some true) : Fn P w K mg base CX0 2 f fd ["self", "other"] (spEq K C) := by
  refine fn_calm F sc_Gate___eq__ (fun vs H Q E h => ?_) (fun cdv A outer s H vs Q E hc hr h => ?_)
  · obtain ⟨x, n, ds, cs, rs, y, rfl, _⟩ := h
    rfl
  · obtain ⟨x, n, ds, cs, rs, y, rfl, hx, h⟩ := h
    have hu64 := hr.units
    obtain ⟨dx, d, c, r, kvs, us, ws, h1, h2, h3, h4, h5, h6, h7, h8, h9, h10⟩ := hx.ex
    refine ⟨_, (pss_one (ps_ret (pe_and (pe_callB call_isi (by rfl) T.isinstanceN (by decide +kernel) (pa_cons (pv 1) (pa_cons (pe_glob (v := .ref C) rfl hG rfl) pa_nil))) (pe_and (pe_cmpR op_eq (pe_fld (pv 0) rfl) (pe_fld (pv 1) rfl) (nomark _)) (pe_and (pe_cmpR (op_eqD hu64) (pe_fld (pv 0) rfl) (pe_fld (pv 1) rfl) (nomark _)) (pe_and (pe_cmpR (op_eqD hu64) (pe_fld (pv 0) rfl) (pe_fld (pv 1) rfl) (nomark _)) (pe_one (pe_cmpR (op_eqDT hu64) (pe_fld (pv 0) rfl) (pe_fld (pv 1) rfl) (nomark _))))))))), ?_⟩
    rcases h with ⟨e, he, ke, q⟩ | ⟨x', n', ds', cs', rs', rfl, hx', t1, t2, t3, t4, g1, g2, q⟩
    · refine ⟨_, rfl, _, _, _, _, _, rfl, .own C, he.ty, ke, _, rfl, ?_⟩
      exact q
    · obtain ⟨dx', d', c', r', kvs', us', ws', h1', h2', h3', h4', h5', h6', h7', h8', h9', h10'⟩ := hx'.ex
      refine ⟨_, rfl, _, _, _, _, _, rfl, .own C, .base (.ins h1' o.cl o.ha o.hn o.ht o.hm), kt, _, rfl, ?_⟩
      refine iteT ?_
      refine ⟨_, rfl, x, C, dx, _, _, rfl, h1, gc.cl, gc.n1, rfl, _, rfl, x', C, dx', _, _, rfl, h1', gc.cl, gc.n1, rfl, rfl, _, rfl, ?_⟩
      have eD : sortS ds = us := sortS_eq h9
      have eC : sortS cs = ws := sortS_eq h10
      have eD' : sortS ds' = us' := sortS_eq h9'
      have eC' : sortS cs' = ws' := sortS_eq h10'
      have tu : TxtOk us := fun w hw => t1 w (h5.mem_iff.mp hw)
      have tw : TxtOk ws := fun w hw => t2 w (h6.mem_iff.mp hw)
      have tu' : TxtOk us' := fun w hw => t3 w (h5'.mem_iff.mp hw)
      have tw' : TxtOk ws' := fun w hw => t4 w (h6'.mem_iff.mp hw)
      have dpl : ∀ {p : Addr} {ls : List Str}, H p = some (.lst (ls.map .str)) → TxtOk ls → Dp K H (.ref p) (Dat.lst (ls.map .str)).py := fun hp t =>
        rep_dp _ (rep_strs hp) (by simp [Dat.pure, pureAll_all]) (SeqAt.canLay_of_shaped (lay_strs t))
      unfold sameG at q
      rw [eD, eC, eD', eC'] at q
      refine ite2 (fun e1 => ?_) (fun e1 => ?_)
      rotate_left
      · rw [show decide (n = n') = false from decide_eq_false fun z => e1 (decide_eq_true (by rw [z]))] at q
        exact q
      rw [show decide (n = n') = true from decide_eq_true (V.int.inj (of_decide_eq_true e1))] at q
      refine ⟨_, rfl, x, C, dx, _, _, rfl, h1, gc.cl, gc.n2, rfl, _, rfl, x', C, dx', _, _, rfl, h1', gc.cl, gc.n2, rfl, _, _, dpl h2 tu, dpl h2' tu', lay_strs tu, lay_strs tu', _, rfl, ?_⟩
      rw [show PyData.eqv (Dat.lst (us.map .str)).py (Dat.lst (us'.map .str)).py = decide (us = us') from eqv_strs us us']
      refine ite2 (fun e2 => ?_) (fun e2 => ?_)
      rotate_left
      · rw [Bool.eq_false_iff.mpr e2] at q
        exact q
      rw [e2] at q
      refine ⟨_, rfl, x, C, dx, _, _, rfl, h1, gc.cl, gc.n3, rfl, _, rfl, x', C, dx', _, _, rfl, h1', gc.cl, gc.n3, rfl, _, _, dpl h3 tw, dpl h3' tw', lay_strs tw, lay_strs tw', _, rfl, ?_⟩
      rw [show PyData.eqv (Dat.lst (ws.map .str)).py (Dat.lst (ws'.map .str)).py = decide (ws = ws') from eqv_strs ws ws']
      refine ite2 (fun e3 => ?_) (fun e3 => ?_)
      rotate_left
      · rw [Bool.eq_false_iff.mpr e3] at q
        exact q
      rw [e3] at q
      have lr : kvs.length = rs.length := by simpa using congrArg List.length h7
      have lr' : kvs'.length = rs'.length := by simpa using congrArg List.length h7'
      refine ⟨_, rfl, x, C, dx, _, _, rfl, h1, gc.cl, gc.n4, rfl, _, rfl, x', C, dx', _, _, rfl, h1', gc.cl, gc.n4, rfl, r, r', kvs, kvs', _, _, rfl, rfl, h4, h4', h8, h8', fun e he => ?_, fun e he => ?_, ?_⟩
      · obtain ⟨a, ha, rfl⟩ := List.mem_map.mp he
        exact g1 a ha
      · obtain ⟨a, ha, rfl⟩ := List.mem_map.mp he
        exact g2 a ha
      · rw [lr, lr', h7, h7']
        exact q
end
end K

set_option Elab.async false
set_option linter.all false
set_option maxRecDepth 100000
set_option maxHeartbeats 8000000
namespace K
open PySem PySem.Spec PyProof.Rows L2 G D L S C Sx Kx Ex
open C8 (pss_cut tCut)
open PySem.W (dataLt alike)
theorem abc (c : Nat) : decide (c ∈ ("abcdefghijklmnopqrstuvwxyz" : Str).cps.toList) = lower c := by
  have e : ("abcdefghijklmnopqrstuvwxyz" : Str).cps.toList = List.range' 97 26 := by decide +kernel
  rw [e]
  unfold lower
  by_cases h1 : 97 ≤ c <;> by_cases h2 : c ≤ 122 <;> simp [List.mem_range'_1, h1, h2] <;> omega
theorem sel_empty {α β : Type} (f : α → Bool) (g : α → β) (xs : List α) : (xs.filterMap fun a => if f a = true then none else some (g a)).isEmpty = xs.all f := by
  induction xs with
  | nil => rfl
  | cons x xs ih =>
    rw [List.all_cons, ← ih, List.filterMap_cons]
    cases f x <;> simp
section
variable {P : Program} {w : World} {K : PySem.W.Frag} {mg : Str → Option Value} {base : Heap}
abbrev s_law_is_whole : Stmt := top 17
theorem sc_law_is_whole : FnScope ["thing"] ["thing"] (defScope s_law_is_whole) := ⟨rfl, rfl, rfl, by decide +kernel, rfl, by decide +kernel, by decide +kernel⟩
theorem ok_law_is_whole {f : Addr} {fd : FuncData} (F : Fun K "_law_is_whole" "_law_is_whole" s_law_is_whole f fd) (T : Bl mg) :
    Fn P w K mg base CX0 2 f fd ["thing"] (spB K (fun _ => True) isWhole) := by
  refine fn_calm F sc_law_is_whole (fun vs H Q E h => ?_) (fun cdv A outer s H vs Q E hc hr h => ?_)
  · obtain ⟨v, d, rfl, _⟩ := h
    rfl
  · obtain ⟨v, d, rfl, hv, _, k⟩ := h
    refine ⟨_, (pss_one (ps_ret (pe_and (pe_callB call_isi (by rfl) T.isinstanceN (by decide +kernel) (pa_cons (pv 0) (pa_cons (pe_bltn (v := .ty "int") (by rfl) T.intN (by decide +kernel) rfl) pa_nil))) (pe_one (pe_not (pe_callB call_isi (by rfl) T.isinstanceN (by decide +kernel) (pa_cons (pv 0) (pa_cons (pe_bltn (v := .ty "bool") (by rfl) T.boolN (by decide +kernel) rfl) pa_nil)))))))), ?_⟩
    refine ⟨_, rfl, _, _, _, _, _, rfl, .ty "int", hv.ty, kit_int hv, _, rfl, ?_⟩
    refine ite2 (fun e => ?_) (fun e => ?_)
    · refine ⟨_, rfl, _, _, _, _, _, rfl, .ty "bool", hv.ty, kit_bl hv, _, rfl, ?_⟩
      have q : (!d.isBl) = isWhole d := by cases d <;> first | rfl | cases e
      rw [q]
      exact k H (.refl H)
    · have q : isWhole d = false := by cases d <;> first | rfl | exact absurd rfl e
      have z := k H (.refl H)
      rw [q] at z
      exact z
abbrev s_law_is_name : Stmt := top 18
theorem sc_law_is_name : FnScope ["thing", "sign"] ["thing"] (defScope s_law_is_name) := ⟨rfl, rfl, rfl, by decide +kernel, rfl, by decide +kernel, by decide +kernel⟩
theorem ok_law_is_name {f : Addr} {fd : FuncData} (F : Fun K "_law_is_name" "_law_is_name" s_law_is_name f fd) (T : Bl mg) :
    Fn P w K mg base CX0 2 f fd ["thing"] (spB K Wd isName) := by
  refine fn_calm F sc_law_is_name (fun vs H Q E h => ?_) (fun cdv A outer s H vs Q E hc hr h => ?_)
  · obtain ⟨v, d, rfl, _⟩ := h
    rfl
  · obtain ⟨v, d, rfl, hv, hw, k⟩ := h
    have hu := hu_of hr
    refine ⟨_, (pss_cons (ps_if (PW.pt (pw_or (pt_not (pt_val (pe_callB call_isi (by rfl) T.isinstanceN (by decide +kernel) (pa_cons (pv 0) (pa_cons (pe_bltn (v := .ty "str") (by rfl) T.strN (by decide +kernel) rfl) pa_nil))))) (pw_or1 (pt_not (pt_chain op_le op_le pe_int (pe_callB call_len_str (by rfl) T.lenN (by decide +kernel) (pa_cons (pv 0) pa_nil)) pe_int)))))
  (pss_one (ps_ret pe_bl))
  pss_nil)
 (pss_one (ps_ret (pe_cmpR (op_eq_lst0 hu) (pe_lc (own := [("sign", 1)]) (g := gName 1)  rfl sc_law_is_name.nd (pi_str (pv 0)) (blkOk_by (N := ["thing", "sign"]) (sc := defScope s_law_is_name) (by decide +kernel)) (fun _ _ _ _ _ => (pg_name (i := 1) sc_law_is_name.nd rfl (Or.inl rfl))) (fun _ _ _ _ _ => (pts_one (pt_cmpR op_notIn_sign (pv 1) pe_str (by rfl)))) (fun _ _ _ _ _ => (pv 1))) (pe_lst pa_nil) (nomark _))))), ?_⟩
    refine ⟨_, rfl, _, _, _, _, _, rfl, .ty "str", hv.ty, kit_str hv, _, rfl, ?_⟩
    cases d with
    | str x =>
      cases (show v = V.str x from hv)
      refine iteF ?_
      have hx : x.length ≤ sizeLine := Nat.le_trans (wd_str hw) (by decide)
      have no : ∀ H', Same H H' → isName (.str x) = false → Q (.bl false) H' := fun H' s e => by
        have z := k H' s
        rw [e] at z
        exact z
      refine ⟨_, rfl, _, rfl, hx, _, _, rfl, rfl, _, rfl, ?_⟩
      refine ite2 (fun e1 => ?_) (fun e1 => ?_)
      · refine ⟨_, _, rfl, rfl, _, rfl, ?_⟩
        have h1 : 1 ≤ x.length := by have := of_decide_eq_true e1; omega
        refine ite2 (fun e2 => ?_) (fun e2 => ?_)
        · refine no H (.refl H) ?_
          have h2 : ¬ x.length ≤ 8 := fun z => by
            have : decide (((x.length : Nat) : Int) ≤ 8) = true := decide_eq_true (by omega)
            rw [this] at e2
            cases e2
          show nameOk x = false
          unfold nameOk
          rw [decide_eq_false h2]
          simp
        · have h2 : x.length ≤ 8 := Decidable.byContradiction fun z => e2 (by
            have : decide (((x.length : Nat) : Int) ≤ 8) = false := decide_eq_false (by omega)
            rw [this]; rfl)
          refine ⟨_, rfl, x, rfl, fun D hD => lc_sel walk_str x.cps.toList (fun c => if lower c = true then none else some (.str ⟨#[c]⟩)) (by simp) ?_ hD (fun _ _ => trivial) ?_ ?_⟩
          · have : x.cps.size = x.length := rfl
            rw [this]
            exact Nat.lt_of_le_of_lt h2 (by decide)
          · rintro i c y H1 H2 Kt Kf hc hs ⟨rfl, c', hc', rfl⟩ kt kf
            obtain rfl : c' = c := by
              rw [← Array.getElem?_toList, hc] at hc'
              exact (Option.some.inj hc').symm
            refine ⟨rfl, _, rfl, c', _, rfl, rfl, _, rfl, ?_⟩
            rw [abc]
            refine ite2 (fun e3 => ?_) (fun e3 => ?_)
            · have e4 : lower c' = false := by simpa using e3
              exact ⟨_, rfl, kt _ _ (.refl _) (by rw [e4]; rfl)⟩
            · have e4 : lower c' = true := by simpa using e3
              exact kf _ (.refl _) (by rw [e4]; rfl)
          · intro H1 hs hd
            refine ⟨Nat.zero_le _, fun p hp => ?_⟩
            have s2 := same_upd (o := .lst []) hp
            refine ⟨D, p, _, rfl, s2 _ _ hd, rfl, upd_same, ?_⟩
            rw [sel_empty]
            have z := k _ (hs.trans s2)
            have q : isName (.str x) = x.cps.toList.all lower := by
              show nameOk x = _
              unfold nameOk
              rw [decide_eq_true h1, decide_eq_true h2]
              rfl
            rw [q] at z
            exact z
      · refine ⟨_, rfl, iteT (no H (.refl H) ?_)⟩
        have h1 : ¬ 1 ≤ x.length := fun z => e1 (decide_eq_true (by omega))
        show nameOk x = false
        unfold nameOk
        rw [decide_eq_false h1]
        rfl
    | _ => exact iteT (iteT (k H (.refl H)))
end
/-! a dict of pairs (name, True) has as many keys as there are different names -/
def onePair (x : Str) : Key × V := (.inr x, .bl true)
abbrev keysK (kvs : List (Key × V)) : List Key := kvs.map (·.1)
theorem put_old (kvs : List (Key × V)) (x : Str) (h : (Sum.inr x : Key) ∈ keysK kvs) : keysK (putK kvs (Sum.inr x) (.bl true)) = keysK kvs := by
  have h2 : (kvs.any fun kv => decide (kv.1 = (Sum.inr x : Key))) = true := by
    obtain ⟨kv, h1, h2⟩ := List.mem_map.mp h
    exact List.any_eq_true.mpr ⟨kv, h1, decide_eq_true h2⟩
  unfold putK keysK
  rw [if_pos h2, List.map_map]
  apply List.map_congr_left
  intro kv _
  show (if kv.1 = (Sum.inr x : Key) then (kv.1, V.bl true) else kv).1 = kv.1
  by_cases e : kv.1 = (Sum.inr x : Key)
  · rw [if_pos e]
  · rw [if_neg e]
theorem put_new (kvs : List (Key × V)) (x : Str) (h : ¬ (Sum.inr x : Key) ∈ keysK kvs) : keysK (putK kvs (Sum.inr x) (.bl true)) = keysK kvs ++ [Sum.inr x] := by
  have h2 : ¬ (kvs.any fun kv => decide (kv.1 = (Sum.inr x : Key))) = true := fun z => by
    obtain ⟨kv, h1, h2⟩ := List.any_eq_true.mp z
    exact h (List.mem_map.mpr ⟨kv, h1, of_decide_eq_true h2⟩)
  unfold putK keysK
  rw [if_neg h2, List.map_append]
  rfl
theorem merge_snoc (l : List (Key × V)) (p : Key × V) : mergeK [] (l ++ [p]) = putK (mergeK [] l) p.1 p.2 := by
  unfold mergeK
  rw [List.foldl_append]
  rfl
theorem merge_cnt (xs : List Str) : ∀ i, i ≤ xs.length → (keysK (mergeK [] ((xs.take i).map onePair))).length = cnt xs i ∧
    ∀ x, (Sum.inr x : Key) ∈ keysK (mergeK [] ((xs.take i).map onePair)) ↔ x ∈ xs.take i
  | 0, _ => ⟨rfl, fun x => by simp [mergeK, keysK]⟩
  | i + 1, h => by
    have hk : xs[i]? = some xs[i] := List.getElem?_eq_getElem (by omega)
    have e : xs.take (i + 1) = xs.take i ++ [xs[i]] := by rw [List.take_add_one, hk]; rfl
    obtain ⟨h1, h2⟩ := merge_cnt xs i (by omega)
    rw [e, List.map_append, List.map_cons, List.map_nil, merge_snoc]
    show (keysK (putK _ (Sum.inr xs[i]) (.bl true))).length = _ ∧ ∀ x, _ ∈ keysK (putK _ (Sum.inr xs[i]) (.bl true)) ↔ _
    unfold Sx.cnt
    rw [hk]
    simp only
    by_cases q : xs[i] ∈ xs.take i
    · rw [put_old _ _ ((h2 _).mpr q), if_pos q]
      refine ⟨h1, fun x => ?_⟩
      rw [h2, List.mem_append, List.mem_singleton]
      exact ⟨.inl, fun z => z.elim id fun e => by rw [e]; exact q⟩
    · rw [put_new _ _ (fun z => q ((h2 _).mp z)), if_neg q]
      refine ⟨by rw [List.length_append, h1]; rfl, fun x => ?_⟩
      rw [List.mem_append, h2, List.mem_append, List.mem_singleton, List.mem_singleton]
      exact or_congr Iff.rfl ⟨fun z => Sum.inr.inj z, fun z => by rw [z]⟩
theorem merge_len (xs : List Str) : (mergeK [] (xs.map onePair)).length = cnt xs xs.length := by
  have h := (merge_cnt xs xs.length (Nat.le_refl _)).1
  rw [List.take_length] at h
  rw [← h]
  exact (List.length_map _).symm
section
variable {P : Program} {w : World} {K : PySem.W.Frag} {mg : Str → Option Value} {base : Heap}
/-- the end of a comprehension that makes pairs (x, True) of texts -/
theorem lc_pairs {J : It} {n : Nat} {Gd : Hp → Prop} {Y : Nat → Hp → V → Hp → Prop} (wk : Walk J n Gd Y) (xs : List Str) {g : TG} {te : TE} {vs : List Nat} {σ : L2.St} {H1 : Hp} {D : Addr}
    {Qd : Hp → Prop} (hn : xs.length = n) (hz : n < sizeLine) (hD : H1 D = none) (hG : ∀ H, Same H1 H → Gd H)
    (turn : ∀ (i : Nat) (x : Str) (y : V) (H H' : Hp) (Kt : V → Hp → Prop), xs[i]? = some x → Same H1 H → Y i H y H' →
      (∀ p, H p = none → Kt (.ref p) (upd H p (.tup [.str x, .bl true]))) →
      g y (wipe σ vs) H' fun σ2 H2 => wipe σ2 vs = wipe σ vs ∧ te σ2 H2 Kt)
    (done : ∀ H (ps : List Addr), Same H1 H → H D = some (.lst (ps.map V.ref)) → Paired (fun p (kv : Key × V) => H p = some (.tup [kV kv.1, kv.2])) ps (xs.map onePair) → Qd H) :
    ∃ W : Nat → Nat → Hp → Prop, (∃ m, W 0 m (upd H1 D (.lst []))) ∧ ∀ i m H, W i m H →
      (J.stop i H ∧ Qd H) ∨ (J.go i H ∧ ∃ Nx : Hp → Prop, (∀ H', Nx H' → ∃ m', m' < m ∧ W (i + 1) m' H') ∧ ∀ x H', J.yld i H x H' →
        g x (wipe σ vs) H' fun σ2 H2 => wipe σ2 vs = wipe σ vs ∧ tYes σ2 H2 fun b H3 =>
          if b = true then te σ2 H3 fun y H4 => ∃ acc, H4 D = some (.lst acc) ∧ acc.length < sizeLine ∧ Nx (upd H4 D (.lst (acc ++ [y]))) else Nx H3) := by
  refine lc_it wk (fun i H => Same H1 H ∧ ∃ ps : List Addr, H D = some (.lst (ps.map V.ref)) ∧ Paired (fun p (kv : Key × V) => p ≠ D ∧ H p = some (.tup [kV kv.1, kv.2])) ps ((xs.take i).map onePair))
    ⟨same_upd hD, [], upd_same, by simp; exact .nil⟩ (fun i H _ h => hG H h.1) ?_ ?_
  · rintro i y H H' hi ⟨hs, ps, hd, hp⟩ hy
    have hx : xs[i]? = some xs[i] := List.getElem?_eq_getElem (by omega)
    have len : ps.length = i := by
      have := Paired.length hp
      rw [List.length_map, List.length_take] at this
      omega
    refine turn i _ y H H' _ hx hs hy fun p np => ?_
    have pD : p ≠ D := fun z => by rw [z, hd] at np; cases np
    refine ⟨ps.map V.ref, by rw [upd_ne (Ne.symm pD)]; exact hd, by rw [List.length_map, len]; omega, ?_, ps ++ [p], by rw [upd_same, List.map_append]; rfl, ?_⟩
    · intro b o e
      rw [upd_ne (ne_of_none e hD), upd_ne (ne_of_none (hs _ _ e) np)]
      exact hs _ _ e
    · have e : xs.take (i + 1) = xs.take i ++ [xs[i]] := by rw [List.take_add_one, hx]; rfl
      rw [e, List.map_append]
      have old : ∀ {as : List Addr} {bs : List (Key × V)}, Paired (fun p (kv : Key × V) => p ≠ D ∧ H p = some (.tup [kV kv.1, kv.2])) as bs →
          Paired (fun q (kv : Key × V) => q ≠ D ∧ (upd (upd H p (.tup [.str xs[i], .bl true])) D (.lst (ps.map V.ref ++ [.ref p]))) q = some (.tup [kV kv.1, kv.2])) (as ++ [p]) (bs ++ [onePair xs[i]]) := by
        intro as bs h
        induction h with
        | nil => exact .cons ⟨pD, by rw [upd_ne pD, upd_same]; rfl⟩ .nil
        | cons a _ ih => exact .cons ⟨a.1, by rw [upd_ne a.1, upd_ne (ne_of_none a.2 np)]; exact a.2⟩ ih
      exact old hp
  · rintro H ⟨hs, ps, hd, hp⟩
    rw [← hn, List.take_length] at hp
    have : ∀ {as : List Addr} {bs : List (Key × V)}, Paired (fun p (kv : Key × V) => p ≠ D ∧ H p = some (.tup [kV kv.1, kv.2])) as bs → Paired (fun p (kv : Key × V) => H p = some (.tup [kV kv.1, kv.2])) as bs := by
      intro as bs h
      induction h with
      | nil => exact .nil
      | cons a _ ih => exact .cons a.2 ih
    exact done H ps hs hd (this hp)
end
end K

set_option Elab.async false
set_option linter.all false
set_option maxRecDepth 100000
set_option maxHeartbeats 8000000
namespace K
open PySem PySem.Spec PyProof.Rows L2 G D L S C Sx Kx Ex
open C8 (pss_cut tCut)
open PySem.W (dataLt alike)
section
variable {P : Program} {w : World} {K : PySem.W.Frag} {mg : Str → Option Value} {base : Heap}
theorem sel_ne {α β : Type} (f : α → Bool) (g : α → β) (xs : List α) : (!(xs.filterMap fun a => if f a = true then none else some (g a)).isEmpty) = !xs.all f := by rw [sel_empty]
/-- the names of a sequence, and its dict -/
theorem dict_end {ds : List Dat} {vs : List V} {H : Hp} (hr : RepAll K H vs ds) (hn : ds.all isName = true) :
    vs = (ds.map strOf).map V.str ∧ (decide (V.int (((mergeK [] ((ds.map strOf).map onePair)).length : Nat) : Int) = V.int (vs.length : Nat))) = namesIn ds := by
  rw [merge_len]
  exact names_end hr hn
abbrev s_law_are_names : Stmt := top 19
theorem sc_law_are_names : FnScope ["thing", "one"] ["thing"] (defScope s_law_are_names) := ⟨rfl, rfl, rfl, by decide +kernel, rfl, by decide +kernel, by decide +kernel⟩
theorem ok_law_are_names {f : Addr} {fd : FuncData} (F : Fun K "_law_are_names" "_law_are_names" s_law_are_names f fd) (T : Bl mg)
    (D_law_is_name : Def P w K mg base 2 "_law_is_name" ["thing"] (spB K Wd isName)) :
    Fn P w K mg base CX0 3 f fd ["thing"] (spB K Wd areNames) := by
  refine fn_calm F sc_law_are_names (fun vs H Q E h => ?_) (fun cdv A outer s H vs Q E hc hr h => ?_)
  · obtain ⟨v, d, rfl, _⟩ := h
    rfl
  · obtain ⟨v, d, rfl, hv, hw, k⟩ := h
    have hu := hu_of hr
    have no : ∀ H', Same H H' → areNames d = false → Q (.bl false) H' := fun H' s e => by
      have z := k H' s
      rw [e] at z
      exact z
    cases d with
    | lst ds =>
      refine ⟨_, (pss_cons (ps_if (PW.pt (pw_or (pt_not (pt_val (pe_callB call_isiT (by rfl) T.isinstanceN (by decide +kernel) (pa_cons (pv 0) (pa_cons (pe_tup (pa_cons (pe_bltn (v := .ty "list") (by rfl) T.listN (by decide +kernel) rfl) (pa_cons (pe_bltn (v := .ty "tuple") (by rfl) T.tupleN (by decide +kernel) rfl) pa_nil))) pa_nil))))) (pw_or1 (pt_cmpR (op_ne_lst0 hu) (pe_lc (own := [("one", 1)]) (g := gName 1)  rfl sc_law_are_names.nd (pi_list (pv 0)) (blkOk_by (N := ["thing", "one"]) (sc := defScope s_law_are_names) (by decide +kernel)) (fun _ _ _ _ _ => (pg_name (i := 1) sc_law_are_names.nd rfl (Or.inl rfl))) (fun _ _ _ _ _ => (pts_one (pt_not (pt_val (pe_def D_law_is_name hc (hr.mono (by decide)) (pa_cons (pv 1) pa_nil)))))) (fun _ _ _ _ _ => (pv 1))) (pe_lst pa_nil) (nomark _)))))
  (pss_one (ps_ret pe_bl))
  pss_nil)
 (pss_one (ps_ret (pe_cmpR op_eq (pe_callB call_lenD (by rfl) T.lenN (by decide +kernel) (pa_cons (pe_callTy (call_dictP rfl) (by rfl) T.dictN (by decide +kernel) (pa_cons (pe_lc (own := [("one", 1)]) (g := gName 1) (tt := tYes) rfl sc_law_are_names.nd (pi_list (pv 0)) (blkOk_by (N := ["thing", "one"]) (sc := defScope s_law_are_names) (by decide +kernel)) (fun _ _ _ _ _ => (pg_name (i := 1) sc_law_are_names.nd rfl (Or.inl rfl))) (fun _ _ _ _ _ => pts_nil) (fun _ _ _ _ _ => (pe_tup (pa_cons (pv 1) (pa_cons pe_bl pa_nil))))) pa_nil)) pa_nil)) (pe_callB call_len_seq (by rfl) T.lenN (by decide +kernel) (pa_cons (pv 0) pa_nil)) (nomark _))))), ?_⟩
      refine ⟨_, rfl, by show 2 ≤ sizeLine; decide, fun p hp => ?_⟩
      have s1 := same_upd (o := .tup [.ty "list", .ty "tuple"]) hp
      have hv1 := Rep.mono s1 _ hv
      refine ⟨_, p, _, _, _, _, rfl, upd_same, .cons (.ty _) (.cons (.ty _) .nil), hv1.ty, kit_seq hv1, _, rfl, ?_⟩
      refine iteF ?_
      obtain ⟨a, xs, rfl, ha, hx⟩ := hv1
      have big : xs.length < sizeLine := by
        rw [hx.length]
        exact Nat.lt_of_le_of_lt (wd_lst hw).1 (by decide)
      refine ⟨_, rfl, a, rfl, ⟨xs, SqL.of ha⟩, fun D hD => lc_sel (walk_list (xs := xs)) (xs.zip ds) (fun q => if isName q.2 = true then none else some q.1)
        (by rw [List.length_zip, hx.length]; omega) big hD (fun H' s => SqL.of (s _ _ ha)) ?_ ?_⟩
      · rintro i ⟨v', d'⟩ y H1 H2 Kt Kf hd hs ⟨rfl, hy⟩ kt kf
        obtain ⟨gv, gd⟩ := List.getElem?_zip_eq_some.mp hd
        obtain rfl : v' = y := Option.some.inj (gv.symm.trans hy)
        obtain ⟨d2, hd', hr'⟩ := hx.get hy
        obtain rfl : d2 = d' := Option.some.inj (hd'.symm.trans gd)
        refine ⟨rfl, _, rfl, v', d2, rfl, Rep.mono hs _ hr', (wd_lst hw).2 _ (List.mem_of_getElem? gd), fun H' s => ⟨_, rfl, ?_⟩⟩
        refine ite2 (fun e => ?_) (fun e => ?_)
        · have e' : isName d2 = false := by simpa using e
          exact ⟨_, rfl, kt _ _ s (by simp [e'])⟩
        · have e' : isName d2 = true := by simpa using e
          exact kf _ s (by simp [e'])
      · intro H1 hs hd
        refine ⟨Nat.zero_le _, fun p2 hp2 => ?_⟩
        have s2 := same_upd (o := .lst []) hp2
        refine ⟨D, p2, _, rfl, s2 _ _ hd, rfl, upd_same, _, rfl, ?_⟩
        rw [sel_ne (fun q : V × Dat => isName q.2) (fun q => q.1)]
        have ez : (xs.zip ds).all (fun q => isName q.2) = ds.all isName := by
          have : (xs.zip ds).map (·.2) = ds := List.map_snd_zip (by rw [hx.length]; exact Nat.le_refl _)
          conv => rhs; rw [← this]
          rw [List.all_map]
          rfl
        rw [ez]
        have s3 := (s1.trans hs).trans s2
        refine ite2 (fun e => ?_) (fun e => ?_)
        · exact no _ s3 (by
            show namesIn ds = false
            unfold namesIn
            have : ds.all isName = false := by simpa using e
            rw [this]; rfl)
        · have hn : ds.all isName = true := by simpa using e
          have hx3 := RepAll.mono (hs.trans s2) _ hx
          have ha3 := s2 _ _ (hs _ _ ha)
          obtain ⟨ev, eq⟩ := dict_end hx3 hn
          refine ⟨_, rfl, a, rfl, ⟨xs, SqL.of ha3⟩, fun D2 hD2 => lc_pairs (walk_list (xs := xs)) (ds.map strOf) (by rw [List.length_map, hx.length]) big hD2 (fun H' s => SqL.of (s _ _ ha3)) ?_ ?_⟩
          · rintro i x y H4 H5 Kt hd4 hs4 ⟨rfl, hy⟩ kt
            have : y = V.str x := by
              rw [ev, List.getElem?_map, hd4] at hy
              exact (Option.some.inj hy).symm
            subst this
            exact ⟨rfl, _, rfl, by show 2 ≤ sizeLine; decide, fun q hq => kt q hq⟩
          · intro H4 ps hs4 hd4 hp4
            refine ⟨D2, ps, (ds.map strOf).map onePair, rfl, SqL.of hd4, ?_, fun p5 hp5 => ?_⟩
            · have : ∀ {as : List Addr} {bs : List (Key × V)}, Paired (fun p (kv : Key × V) => H4 p = some (.tup [kV kv.1, kv.2])) as bs → Paired (fun p kv => SqT K H4 p [kV kv.1, kv.2]) as bs := by
                intro as bs h
                induction h with
                | nil => exact .nil
                | cons a _ ih => exact .cons (SqT.of a) ih
              exact this hp4
            · have s5 := same_upd (o := .dK (mergeK [] ((ds.map strOf).map onePair))) hp5
              refine ⟨p5, _, rfl, upd_same, _, rfl, a, _, rfl, .inl (SqL.of (s5 _ _ (hs4 _ _ ha3))), rfl, ?_⟩
              rw [eq]
              exact k _ ((s3.trans hs4).trans s5)
    | tup ds =>
      refine ⟨_, (pss_cons (ps_if (PW.pt (pw_or (pt_not (pt_val (pe_callB call_isiT (by rfl) T.isinstanceN (by decide +kernel) (pa_cons (pv 0) (pa_cons (pe_tup (pa_cons (pe_bltn (v := .ty "list") (by rfl) T.listN (by decide +kernel) rfl) (pa_cons (pe_bltn (v := .ty "tuple") (by rfl) T.tupleN (by decide +kernel) rfl) pa_nil))) pa_nil))))) (pw_or1 (pt_cmpR (op_ne_lst0 hu) (pe_lc (own := [("one", 1)]) (g := gName 1)  rfl sc_law_are_names.nd (pi_tup (pv 0)) (blkOk_by (N := ["thing", "one"]) (sc := defScope s_law_are_names) (by decide +kernel)) (fun _ _ _ _ _ => (pg_name (i := 1) sc_law_are_names.nd rfl (Or.inl rfl))) (fun _ _ _ _ _ => (pts_one (pt_not (pt_val (pe_def D_law_is_name hc (hr.mono (by decide)) (pa_cons (pv 1) pa_nil)))))) (fun _ _ _ _ _ => (pv 1))) (pe_lst pa_nil) (nomark _)))))
  (pss_one (ps_ret pe_bl))
  pss_nil)
 (pss_one (ps_ret (pe_cmpR op_eq (pe_callB call_lenD (by rfl) T.lenN (by decide +kernel) (pa_cons (pe_callTy (call_dictP rfl) (by rfl) T.dictN (by decide +kernel) (pa_cons (pe_lc (own := [("one", 1)]) (g := gName 1) (tt := tYes) rfl sc_law_are_names.nd (pi_tup (pv 0)) (blkOk_by (N := ["thing", "one"]) (sc := defScope s_law_are_names) (by decide +kernel)) (fun _ _ _ _ _ => (pg_name (i := 1) sc_law_are_names.nd rfl (Or.inl rfl))) (fun _ _ _ _ _ => pts_nil) (fun _ _ _ _ _ => (pe_tup (pa_cons (pv 1) (pa_cons pe_bl pa_nil))))) pa_nil)) pa_nil)) (pe_callB call_len_seq (by rfl) T.lenN (by decide +kernel) (pa_cons (pv 0) pa_nil)) (nomark _))))), ?_⟩
      refine ⟨_, rfl, by show 2 ≤ sizeLine; decide, fun p hp => ?_⟩
      have s1 := same_upd (o := .tup [.ty "list", .ty "tuple"]) hp
      have hv1 := Rep.mono s1 _ hv
      refine ⟨_, p, _, _, _, _, rfl, upd_same, .cons (.ty _) (.cons (.ty _) .nil), hv1.ty, kit_seq hv1, _, rfl, ?_⟩
      refine iteF ?_
      obtain ⟨a, xs, rfl, ha, hx⟩ := hv1
      have big : xs.length < sizeLine := by
        rw [hx.length]
        exact Nat.lt_of_le_of_lt (wd_tup hw).1 (by decide)
      refine ⟨_, rfl, a, rfl, ⟨xs, SqT.of ha⟩, fun D hD => lc_sel (walk_tup (xs := xs)) (xs.zip ds) (fun q => if isName q.2 = true then none else some q.1)
        (by rw [List.length_zip, hx.length]; omega) big hD (fun H' s => SqT.of (s _ _ ha)) ?_ ?_⟩
      · rintro i ⟨v', d'⟩ y H1 H2 Kt Kf hd hs ⟨rfl, hy⟩ kt kf
        obtain ⟨gv, gd⟩ := List.getElem?_zip_eq_some.mp hd
        obtain rfl : v' = y := Option.some.inj (gv.symm.trans hy)
        obtain ⟨d2, hd', hr'⟩ := hx.get hy
        obtain rfl : d2 = d' := Option.some.inj (hd'.symm.trans gd)
        refine ⟨rfl, _, rfl, v', d2, rfl, Rep.mono hs _ hr', (wd_tup hw).2 _ (List.mem_of_getElem? gd), fun H' s => ⟨_, rfl, ?_⟩⟩
        refine ite2 (fun e => ?_) (fun e => ?_)
        · have e' : isName d2 = false := by simpa using e
          exact ⟨_, rfl, kt _ _ s (by simp [e'])⟩
        · have e' : isName d2 = true := by simpa using e
          exact kf _ s (by simp [e'])
      · intro H1 hs hd
        refine ⟨Nat.zero_le _, fun p2 hp2 => ?_⟩
        have s2 := same_upd (o := .lst []) hp2
        refine ⟨D, p2, _, rfl, s2 _ _ hd, rfl, upd_same, _, rfl, ?_⟩
        rw [sel_ne (fun q : V × Dat => isName q.2) (fun q => q.1)]
        have ez : (xs.zip ds).all (fun q => isName q.2) = ds.all isName := by
          have : (xs.zip ds).map (·.2) = ds := List.map_snd_zip (by rw [hx.length]; exact Nat.le_refl _)
          conv => rhs; rw [← this]
          rw [List.all_map]
          rfl
        rw [ez]
        have s3 := (s1.trans hs).trans s2
        refine ite2 (fun e => ?_) (fun e => ?_)
        · exact no _ s3 (by
            show namesIn ds = false
            unfold namesIn
            have : ds.all isName = false := by simpa using e
            rw [this]; rfl)
        · have hn : ds.all isName = true := by simpa using e
          have hx3 := RepAll.mono (hs.trans s2) _ hx
          have ha3 := s2 _ _ (hs _ _ ha)
          obtain ⟨ev, eq⟩ := dict_end hx3 hn
          refine ⟨_, rfl, a, rfl, ⟨xs, SqT.of ha3⟩, fun D2 hD2 => lc_pairs (walk_tup (xs := xs)) (ds.map strOf) (by rw [List.length_map, hx.length]) big hD2 (fun H' s => SqT.of (s _ _ ha3)) ?_ ?_⟩
          · rintro i x y H4 H5 Kt hd4 hs4 ⟨rfl, hy⟩ kt
            have : y = V.str x := by
              rw [ev, List.getElem?_map, hd4] at hy
              exact (Option.some.inj hy).symm
            subst this
            exact ⟨rfl, _, rfl, by show 2 ≤ sizeLine; decide, fun q hq => kt q hq⟩
          · intro H4 ps hs4 hd4 hp4
            refine ⟨D2, ps, (ds.map strOf).map onePair, rfl, SqL.of hd4, ?_, fun p5 hp5 => ?_⟩
            · have : ∀ {as : List Addr} {bs : List (Key × V)}, Paired (fun p (kv : Key × V) => H4 p = some (.tup [kV kv.1, kv.2])) as bs → Paired (fun p kv => SqT K H4 p [kV kv.1, kv.2]) as bs := by
                intro as bs h
                induction h with
                | nil => exact .nil
                | cons a _ ih => exact .cons (SqT.of a) ih
              exact this hp4
            · have s5 := same_upd (o := .dK (mergeK [] ((ds.map strOf).map onePair))) hp5
              refine ⟨p5, _, rfl, upd_same, _, rfl, a, _, rfl, .inr (SqT.of (s5 _ _ (hs4 _ _ ha3))), rfl, ?_⟩
              rw [eq]
              exact k _ ((s3.trans hs4).trans s5)
    | _ =>
      refine ⟨_, (pss_cons (ps_if (PW.pt (pw_or (pt_not (pt_val (pe_callB call_isiT (by rfl) T.isinstanceN (by decide +kernel) (pa_cons (pv 0) (pa_cons (pe_tup (pa_cons (pe_bltn (v := .ty "list") (by rfl) T.listN (by decide +kernel) rfl) (pa_cons (pe_bltn (v := .ty "tuple") (by rfl) T.tupleN (by decide +kernel) rfl) pa_nil))) pa_nil))))) (pw_or1 (pt_cmpR (op_ne_lst0 hu) (pe_lc (own := [("one", 1)]) (g := gName 1)  rfl sc_law_are_names.nd (pi_list (pv 0)) (blkOk_by (N := ["thing", "one"]) (sc := defScope s_law_are_names) (by decide +kernel)) (fun _ _ _ _ _ => (pg_name (i := 1) sc_law_are_names.nd rfl (Or.inl rfl))) (fun _ _ _ _ _ => (pts_one (pt_not (pt_val (pe_def D_law_is_name hc (hr.mono (by decide)) (pa_cons (pv 1) pa_nil)))))) (fun _ _ _ _ _ => (pv 1))) (pe_lst pa_nil) (nomark _)))))
  (pss_one (ps_ret pe_bl))
  pss_nil)
 (pss_one (ps_ret (pe_cmpR op_eq (pe_callB call_lenD (by rfl) T.lenN (by decide +kernel) (pa_cons (pe_callTy (call_dictP rfl) (by rfl) T.dictN (by decide +kernel) (pa_cons (pe_lc (own := [("one", 1)]) (g := gName 1) (tt := tYes) rfl sc_law_are_names.nd (pi_list (pv 0)) (blkOk_by (N := ["thing", "one"]) (sc := defScope s_law_are_names) (by decide +kernel)) (fun _ _ _ _ _ => (pg_name (i := 1) sc_law_are_names.nd rfl (Or.inl rfl))) (fun _ _ _ _ _ => pts_nil) (fun _ _ _ _ _ => (pe_tup (pa_cons (pv 1) (pa_cons pe_bl pa_nil))))) pa_nil)) pa_nil)) (pe_callB call_len_seq (by rfl) T.lenN (by decide +kernel) (pa_cons (pv 0) pa_nil)) (nomark _))))), ?_⟩
      refine ⟨_, rfl, by show 2 ≤ sizeLine; decide, fun p hp => ?_⟩
      have s1 := same_upd (o := .tup [.ty "list", .ty "tuple"]) hp
      have hv1 := Rep.mono s1 _ hv
      refine ⟨_, p, _, _, _, _, rfl, upd_same, .cons (.ty _) (.cons (.ty _) .nil), hv1.ty, kit_seq hv1, _, rfl, ?_⟩
      exact iteT (iteT (no _ s1 rfl))
end
end K

set_option Elab.async false
set_option linter.all false
set_option maxRecDepth 100000
set_option maxHeartbeats 8000000
namespace K
open PySem PySem.Spec PyProof.Rows L2 G D L S C Sx Kx Ex Lt
open Fz hiding Fr
open C8 (pss_cut tCut)
open PySem.W (dataLt alike AllAlike Sortable)
/-- the law's own gate, its rules at r -/
abbrev lgd (n : Int) (d c r : Addr) : List (Key × V) := [(.inr "states", .int n), (.inr "doors", .ref d), (.inr "closet", .ref c), (.inr "rules", .ref r)]
theorem lg_states (n : Int) (d c r : Addr) : valV (lgd n d c r) (.inr "states") = some (.int n) := rfl
theorem lg_doors (n : Int) (d c r : Addr) : valV (lgd n d c r) (.inr "doors") = some (.ref d) := rfl
theorem lg_closet (n : Int) (d c r : Addr) : valV (lgd n d c r) (.inr "closet") = some (.ref c) := rfl
theorem lg_rules (n : Int) (d c r : Addr) : valV (lgd n d c r) (.inr "rules") = some (.ref r) := rfl
structure LG (F : Hp) (g : Addr) (n : Int) (ds cs : List Str) (r : Addr) : Prop where
  ex : ∃ d c, F g = some (.dK (lgd n d c r)) ∧ F d = some (.lst (ds.map .str)) ∧ F c = some (.lst (cs.map .str))
theorem LG.mono {F F' : Hp} {g : Addr} {n : Int} {ds cs : List Str} {r : Addr} (h : LG F g n ds cs r) (s : Same F F') : LG F' g n ds cs r := by
  obtain ⟨d, c, h1, h2, h3⟩ := h.ex
  exact ⟨d, c, s _ _ h1, s _ _ h2, s _ _ h3⟩
theorem dg {H : Hp} {g : Addr} {kvs : List (Key × V)} {x : Str} {v : V} (h : H g = some (.dK kvs)) (e : valV kvs (.inr x) = some v) : DGet H g (.str x) (some v) := .inl ⟨kvs, .inr x, .inl h, rfl, e.symm⟩
def Rl.keyD (r : Rl) : Dat := .tup [.str r.door, .int r.state, .str r.kind]
def Rl.restD (r : Rl) : Dat := .tup [.int r.later, .bl r.keeps, .tup (r.told.map .str)]
/-- a rule is drawn -/
def spDrawnRule (K : PySem.W.Frag) : Sp := fun vs H Q _ => ∃ (b g ra : Addr) (ck : Bool) (F : Hp) (n : Int) (ds cs : List Str), vs = [.ref b, .ref g, .bl ck] ∧ Fz.Fr F H b ∧ LG F g n ds cs ra ∧ 1 ≤ n ∧ n ≤ 64 ∧ Names ds ∧ Names cs ∧ ds ≠ [] ∧ cs.length ≤ 16 ∧
  ∀ (v : V) (r : Rl) (F' H' : Hp), Go b F H F' H' → Rep K F' v (.tup [r.keyD, r.restD]) → r.Ok n ds cs → r.told.length ≤ 3 → Q v H'
theorem mem_strs {ws : List Str} {v : V} (h : v ∈ ws.map V.str) : ∃ w ∈ ws, v = .str w := by
  obtain ⟨w, hw, e⟩ := List.mem_map.mp h
  exact ⟨w, hw, e.symm⟩
section
variable {P : Program} {w : World} {K : PySem.W.Frag} {mg : Str → Option Value} {base : Heap}
abbrev s_law_drawn_rule : Stmt := top 23
theorem sc_law_drawn_rule : FnScope ["bag", "gate", "can_keep", "kind", "menu", "some", "k", "keeps", "state", "later"] ["bag", "gate", "can_keep"] (defScope s_law_drawn_rule) := ⟨rfl, rfl, rfl, by decide +kernel, rfl, by decide +kernel, by decide +kernel⟩
theorem ok_drawn_rule {f : Addr} {fd : FuncData} (F : Fun K "_law_drawn_rule" "_law_drawn_rule" s_law_drawn_rule f fd) (T : Bl mg)
    (D_law_take : Def P w K mg base 2 "_law_take" ["bag", "many"] spTake) (D_law_one : Def P w K mg base 3 "_law_one" ["bag", "things"] spOne) :
    Fn P w K mg base CX0 4 f fd ["bag", "gate", "can_keep"] (spDrawnRule K) := by
  refine fn_calm F sc_law_drawn_rule (fun vs H Q E h => ?_) (fun cdv A outer s H vs Q E hc hr h => ?_)
  · obtain ⟨b, g, ra, ck, F, n, ds, cs, rfl, _⟩ := h
    rfl
  · obtain ⟨b, g, ra, ck, F0, n, ds, cs, rfl, fr, lg, n1, n64, nd, nc, dn, lc, k⟩ := h
    have hu := hu_of hr
    obtain ⟨d, c, hg, hd, hC⟩ := lg.ex
    refine ⟨_, (pss_cons (ps_set (i := 3) sc_law_drawn_rule.nd rfl (Or.inl rfl) (pe_def D_law_one hc (hr.mono (by decide)) (pa_cons (pv 0) (pa_cons (pe_op op_cat (pe_lit (d := .lst [.str "", .str "", .str "?", .str "?"]) 9 (by rfl) (by rfl)) (pe_dget hu (pv 1) pe_str (fun _ _ => rfl))) pa_nil))))
 (pss_cut (ps_set (i := 4) sc_law_drawn_rule.nd rfl (Or.inr rfl) (pe_op op_cat (pe_op op_cat (pe_dget hu (pv 1) pe_str (fun _ _ => rfl)) (pe_lit (d := .lst [.str "+kept"]) 9 (by rfl) (by rfl))) (pe_op op_rep (pe_op op_rep (pe_lit (d := .lst [.str "+given"]) 9 (by rfl) (by rfl)) (pe_callTy call_int1 (by rfl) T.intN (by decide +kernel) (pa_cons (pe_cmpR op_ne (pv 3) pe_str (nomark _)) pa_nil))) pe_int)))
 (pss_cons (ps_setLc (i := 5) (own := [("k", 6)]) (g := gName 6) (tt := tYes) rfl sc_law_drawn_rule.nd rfl rfl (sw_true rfl rfl rfl (by decide +kernel)) (pi_range1 rfl T.rangeN (pa_cons (pe_def D_law_one hc (hr.mono (by decide)) (pa_cons (pv 0) (pa_cons (pe_lit (d := .lst [.int 0, .int 1, .int 1, .int 2, .int 3]) 9 (by rfl) (by rfl)) pa_nil))) pa_nil)) (blkOk_by (N := ["bag", "gate", "can_keep", "kind", "menu", "some", "k", "keeps", "state", "later"]) (sc := defScope s_law_drawn_rule) (by decide +kernel)) (fun _ _ _ _ _ => (pg_name (i := 6) sc_law_drawn_rule.nd rfl (Or.inl rfl))) (fun _ _ _ _ _ => pts_nil) (fun _ _ _ _ _ => (pe_def D_law_one hc (hr.mono (by decide)) (pa_cons (pv 0) (pa_cons (pv 4) pa_nil)))))
 (pss_cut (ps_set (i := 7) sc_law_drawn_rule.nd rfl (Or.inl rfl) (pe_and (pe_cmpR op_ne (pv 3) pe_str (nomark _)) (pe_and (pv 2) (pe_one (pe_cmpR op_eq (pe_def D_law_take hc (hr.mono (by decide)) (pa_cons (pv 0) (pa_cons pe_int pa_nil))) pe_int (nomark _))))))
 (pss_cons (ps_set (i := 8) sc_law_drawn_rule.nd rfl (Or.inl rfl) (pe_def D_law_one hc (hr.mono (by decide)) (pa_cons (pv 0) (pa_cons (pe_lst (pa_cons pe_int (pa_cons (pe_def D_law_take hc (hr.mono (by decide)) (pa_cons (pv 0) (pa_cons (pe_dget hu (pv 1) pe_str (fun _ _ => rfl)) pa_nil))) pa_nil))) pa_nil))))
 (pss_cons (ps_set (i := 9) sc_law_drawn_rule.nd rfl (Or.inl rfl) (pe_def D_law_one hc (hr.mono (by decide)) (pa_cons (pv 0) (pa_cons (pe_lst (pa_cons (pe_op op_modN (pe_callTy call_int1 (by rfl) T.intN (by decide +kernel) (pa_cons (pe_op op_add (pv 8) pe_int) pa_nil)) (pe_dget hu (pv 1) pe_str (fun _ _ => rfl))) (pa_cons (pe_def D_law_take hc (hr.mono (by decide)) (pa_cons (pv 0) (pa_cons (pe_dget hu (pv 1) pe_str (fun _ _ => rfl)) pa_nil))) pa_nil))) pa_nil))))
 (pss_one (ps_ret (pe_tup (pa_cons (pe_tup (pa_cons (pe_def D_law_one hc (hr.mono (by decide)) (pa_cons (pv 0) (pa_cons (pe_dget hu (pv 1) pe_str (fun _ _ => rfl)) pa_nil))) (pa_cons (pv 8) (pa_cons (pv 3) pa_nil)))) (pa_cons (pe_tup (pa_cons (pv 9) (pa_cons (pv 7) (pa_cons (pe_callTy call_tuple_of (by rfl) T.tupleN (by decide +kernel) (pa_cons (pv 5) pa_nil)) pa_nil)))) pa_nil))))))))))), ?_⟩
    -- kind
    refine ⟨_, rfl, fun v1 N1 H1 m1 r1 => ?_⟩
    obtain ⟨F1, g1, s1, t1⟩ := (Go.refl fr).lit' m1
    obtain ⟨a1, x1, rfl, h1, hx1⟩ := Rep.mono t1 _ r1
    obtain rfl : x1 = ([("" : Str), "", "?", "?"] : List Str).map V.str := RepAll.strs (xs := ["", "", "?", "?"]) hx1
    refine ⟨_, rfl, g, _, rfl, dg (g1.same _ _ (s1 _ _ hg)) (lg_closet n d c ra), a1, c, _, _, rfl, rfl, g1.same _ _ h1, g1.same _ _ (s1 _ _ hC), ?_, fun p2 hp2 => ?_⟩
    · rw [List.length_map, List.length_map]
      exact Nat.le_trans (Nat.add_le_add_left lc 4) (by decide)
    rw [← List.map_append]
    obtain ⟨F2, g2, s2, at2⟩ := g1.put' (o := .lst ((([("" : Str), "", "?", "?"] : List Str) ++ cs).map V.str)) hp2
    refine ⟨b, p2, _, rfl, g2.bag, upd_same, g2.ne at2, by simp, ?_, fun kv H3 hk sb3 bt3 => ?_⟩
    · rw [List.length_map, List.length_append]
      exact Nat.lt_of_le_of_lt (Nat.add_le_add_left lc 4) (by decide)
    obtain ⟨kind, mk, rfl⟩ := mem_strs hk
    have kin : kind ∈ cs ++ (["", "?"] : List Str) := by
      rcases List.mem_append.mp mk with h | h
      · refine List.mem_append_right _ ?_
        simp only [List.mem_cons, List.not_mem_nil, or_false] at h ⊢
        rcases h with h | h | h | h <;> simp [h]
      · exact List.mem_append_left _ h
    have g3 := g2.took sb3 bt3
    have s02 := s1.trans s2
    -- menu
    refine ⟨fun σ H' => ∃ F' pm ms, σ = [some (.ref b), some (.ref g), some (.bl ck), some (.str kind), some (.ref pm), none, none, none, none, none] ∧ Go b F0 H F' H' ∧ Same F2 F' ∧ F' pm = some (.lst (ms.map V.str)) ∧ ms ≠ [] ∧ ms.length ≤ 100 ∧
      (∀ w ∈ ms, w ∈ cs ++ (["+kept", "+given"] : List Str)) ∧ (kind = "" → ∀ w ∈ ms, w ∈ cs ++ (["+kept"] : List Str)), ?_, ?_⟩
    · refine ⟨_, rfl, g, _, rfl, dg (g3.same _ _ (s02 _ _ hg)) (lg_closet n d c ra), fun v4 N4 H4 m4 r4 => ?_⟩
      obtain ⟨F4, g4, s4, t4⟩ := g3.lit' m4
      obtain ⟨a4, x4, rfl, h4, hx4⟩ := Rep.mono t4 _ r4
      obtain rfl : x4 = (["+kept"] : List Str).map V.str := RepAll.strs (xs := ["+kept"]) hx4
      refine ⟨c, a4, _, _, rfl, rfl, g4.same _ _ (s4 _ _ (s02 _ _ hC)), g4.same _ _ h4, ?_, fun p5 hp5 => ?_⟩
      · rw [List.length_map, List.length_map]
        exact Nat.le_trans (Nat.add_le_add_right lc 1) (by decide)
      rw [← List.map_append]
      obtain ⟨F5, g5, s5, at5⟩ := g4.put' (o := .lst ((cs ++ (["+kept"] : List Str)).map V.str)) hp5
      intro v6 N6 H6 m6 r6
      obtain ⟨F6, g6, s6, t6⟩ := g5.lit' m6
      obtain ⟨a6, x6, rfl, h6, hx6⟩ := Rep.mono t6 _ r6
      obtain rfl : x6 = (["+given"] : List Str).map V.str := RepAll.strs (xs := ["+given"]) hx6
      have fin : ∀ (rest : List Str) (F8 H8 : Hp) (p8 : Addr), (∀ w ∈ rest, w = "+given") → rest.length ≤ 2 → (kind = "" → rest = []) → Go b F0 H F8 H8 → Same F6 F8 → F8 p8 = some (.lst (rest.map V.str)) →
          rCat (.ref p5) (.ref p8) H8 fun x H' => ∃ F' pm ms, ([some (.ref b), some (.ref g), some (.bl ck), some (.str kind), some x, none, none, none, none, none] : L2.St) = [some (.ref b), some (.ref g), some (.bl ck), some (.str kind), some (.ref pm), none, none, none, none, none] ∧
            Go b F0 H F' H' ∧ Same F2 F' ∧ F' pm = some (.lst (ms.map V.str)) ∧ ms ≠ [] ∧ ms.length ≤ 100 ∧ (∀ w ∈ ms, w ∈ cs ++ (["+kept", "+given"] : List Str)) ∧ (kind = "" → ∀ w ∈ ms, w ∈ cs ++ (["+kept"] : List Str)) := by
        intro rest F8 H8 p8 hr1 hl1 he1 g8 s8 at8
        refine ⟨p5, p8, _, _, rfl, rfl, g8.same _ _ (s8 _ _ (s6 _ _ at5)), g8.same _ _ at8, ?_, fun p9 hp9 => ?_⟩
        · rw [List.length_map, List.length_map, List.length_append]
          exact Nat.le_trans (Nat.add_le_add (Nat.add_le_add_right lc 1) hl1) (by decide)
        rw [← List.map_append]
        obtain ⟨F9, g9, s9, at9⟩ := g8.put' (o := .lst (((cs ++ (["+kept"] : List Str)) ++ rest).map V.str)) hp9
        refine ⟨F9, p9, _, rfl, g9, ((s4.trans s5).trans s6).trans (s8.trans s9), at9, by simp, ?_, fun w hw => ?_, fun e w hw => ?_⟩
        · rw [List.length_append, List.length_append]
          have : (["+kept"] : List Str).length = 1 := rfl
          omega
        · rcases List.mem_append.mp hw with hw | hw
          · rcases List.mem_append.mp hw with hw | hw
            · exact List.mem_append_left _ hw
            · rw [List.mem_singleton] at hw
              subst hw
              exact List.mem_append_right _ (by simp)
          · rw [hr1 w hw]
            exact List.mem_append_right _ (by simp)
        · rw [he1 e, List.append_nil] at hw
          exact hw
      refine ⟨_, rfl, rfl, .inr ⟨_, rfl, ?_⟩⟩
      by_cases ek : kind = ""
      · have e0 : (if (!decide (V.str kind = V.str "")) = true then (1 : Int) else 0) = 0 := by rw [ek]; rfl
        refine ⟨a6, 0, _, rfl, congrArg V.int e0, g6.same _ _ h6, by decide, by decide, by decide, fun p7 hp7 => ?_⟩
        obtain ⟨F7, g7, s7, at7⟩ := g6.put' (o := .lst (List.replicate (0 : Int).toNat ((["+given"] : List Str).map V.str)).flatten) hp7
        refine ⟨p7, 2, _, rfl, rfl, upd_same, by decide, by decide, by decide, fun p8 hp8 => ?_⟩
        obtain ⟨F8, g8, s8, at8⟩ := g7.put' (o := .lst (List.replicate (2 : Int).toNat (List.replicate (0 : Int).toNat ((["+given"] : List Str).map V.str)).flatten).flatten) hp8
        exact fin [] F8 _ p8 (fun _ h => nomatch h) (by decide) (fun _ => rfl) g8 (s7.trans s8) at8
      · have e0 : (if (!decide (V.str kind = V.str "")) = true then (1 : Int) else 0) = 1 := by
          rw [decide_eq_false (fun z => ek (V.str.inj z))]
          rfl
        refine ⟨a6, 1, _, rfl, congrArg V.int e0, g6.same _ _ h6, by decide, by decide, by decide, fun p7 hp7 => ?_⟩
        obtain ⟨F7, g7, s7, at7⟩ := g6.put' (o := .lst (List.replicate (1 : Int).toNat ((["+given"] : List Str).map V.str)).flatten) hp7
        refine ⟨p7, 2, _, rfl, rfl, upd_same, by decide, by decide, by decide, fun p8 hp8 => ?_⟩
        obtain ⟨F8, g8, s8, at8⟩ := g7.put' (o := .lst (List.replicate (2 : Int).toNat (List.replicate (1 : Int).toNat ((["+given"] : List Str).map V.str)).flatten).flatten) hp8
        exact fin ["+given", "+given"] F8 _ p8 (fun w h => by simpa using h) (by decide) (fun z => absurd z ek) g8 (s7.trans s8) at8
    · rintro σ H4 ⟨F4, pm, ms, rfl, g4, s4, atm, mne, ml, min1, min0⟩
      have s04 := s02.trans s4
      refine ⟨_, rfl, fun v5 N5 H5 m5 r5 => ?_⟩
      obtain ⟨F5, g5, s5, t5⟩ := g4.lit' m5
      obtain ⟨a5, x5, rfl, h5, hx5⟩ := Rep.mono t5 _ r5
      have l5 := hx5.length
      refine ⟨b, a5, x5, rfl, g5.bag, g5.same _ _ h5, g5.ne h5, fun z => (by rw [z] at l5; cases l5), by rw [l5]; decide, fun iv H6 hi sb6 bt6 => ?_⟩
      obtain ⟨di, hdi, rdi⟩ := rep_mem hx5 hi
      have g6 := g5.took sb6 bt6
      have ei : ∃ i, di = .int i ∧ 0 ≤ i ∧ i ≤ 3 := by
        simp only [List.mem_cons, List.not_mem_nil, or_false] at hdi
        rcases hdi with rfl | rfl | rfl | rfl | rfl <;> exact ⟨_, rfl, by decide, by decide⟩
      obtain ⟨i, rfl, i0, i3⟩ := ei
      obtain rfl : iv = .int i := rdi
      refine ⟨i, rfl, by omega, by omega, fun D hD => ?_⟩
      refine lc_drawS (K := K) (F := F5) (b := b) (fun d => ∃ w, d = .str w ∧ w ∈ ms) (Nat.lt_of_le_of_lt (by omega : i.toNat ≤ 3) (by decide)) hD g6.fr ?_ ?_
      · intro j F' H' Kt f' sF kt
        refine ⟨rfl, _, rfl, _, rfl, b, pm, _, rfl, f'.bag, f'.same _ _ (sF _ _ (s5 _ _ atm)), f'.ne (sF _ _ (s5 _ _ atm)), by simpa using mne, by rw [List.length_map]; omega, fun v H2 hv sb bt => ?_⟩
        obtain ⟨w0, hw0, rfl⟩ := mem_strs hv
        exact kt _ (.str w0) F' H2 ((Go.refl f').took sb bt) rfl ⟨w0, rfl, hw0⟩
      intro F7 H7 xs7 ds7 go7 hD7 fD7 nDb hxs7 hl7 hg7
      have g7 := g6.trans go7
      have s07 := s04.trans (s5.trans go7.up)
      obtain ⟨told, rfl, ht7⟩ : ∃ told : List Str, ds7 = told.map .str ∧ ∀ w ∈ told, w ∈ ms := by
        refine ⟨ds7.map strOf, ?_, ?_⟩
        · rw [List.map_map, List.map_congr_left (g := id), List.map_id]
          intro e he
          obtain ⟨w, rfl, _⟩ := hg7 e he
          rfl
        · intro w hw
          obtain ⟨e, he, rfl⟩ := List.mem_map.mp hw
          obtain ⟨w, rfl, h⟩ := hg7 e he
          exact h
      obtain rfl := RepAll.strs hxs7
      rw [List.length_map] at hl7
      -- keeps
      refine ⟨fun σ H' => ∃ (kp : Bool), σ = [some (.ref b), some (.ref g), some (.bl ck), some (.str kind), some (.ref pm), some (.ref D), none, some (.bl kp), none, none] ∧ Go b F7 H7 F7 H' ∧ (kind = "" → kp = false), ?_, ?_⟩
      · refine ⟨_, rfl, rfl, _, rfl, ?_⟩
        refine ite2 (fun e1 => ?_) (fun e1 => ?_)
        · have nk : kind ≠ "" := fun z => by rw [z] at e1; exact absurd e1 (by decide +kernel)
          refine ⟨_, rfl, _, rfl, ?_⟩
          refine ite2 (fun e2 => ?_) (fun e2 => ?_)
          · exact ⟨_, rfl, b, 2, rfl, g7.bag, by decide, by decide, fun q H' _ _ sb bt => ⟨rfl, _, rfl, (Go.refl g7.fr).took sb bt, fun z => absurd z nk⟩⟩
          · exact ⟨_, rfl, Go.refl g7.fr, fun z => absurd z nk⟩
        · exact ⟨_, rfl, Go.refl g7.fr, fun _ => rfl⟩
      · rintro σ H8 ⟨kp, rfl, g8, hkp⟩
        have hD8 := g8.but _ _ nDb hD7
        -- state
        refine ⟨_, rfl, _, rfl, _, rfl, g, _, rfl, dg (g8.same _ _ (s07 _ _ hg)) (lg_states n d c ra), b, n, rfl, g8.bag, by omega, by omega, fun q H9 q0 qn sb9 bt9 => ?_⟩
        have g9 := g8.took sb9 bt9
        refine ⟨by show 2 ≤ sizeLine; decide, fun pa hpa => ?_⟩
        obtain ⟨Fa, ga, sa, ata⟩ := g9.put' (o := .lst [.int 0, .int q]) hpa
        refine ⟨b, pa, _, rfl, ga.bag, upd_same, ga.ne ata, by simp, (show 2 < 1000000 by decide), fun sv Hb hsv sbb btb => ?_⟩
        have gb := ga.took sbb btb
        obtain ⟨st, rfl, st0, stn⟩ : ∃ st, sv = .int st ∧ 0 ≤ st ∧ st < n := by
          simp only [List.mem_cons, List.not_mem_nil, or_false] at hsv
          rcases hsv with rfl | rfl
          · exact ⟨_, rfl, by omega, by omega⟩
          · exact ⟨_, rfl, q0, qn⟩
        have s0b := s07.trans sa
        -- later
        refine ⟨_, rfl, _, rfl, _, _, rfl, rfl, .inl ⟨_, rfl, _, rfl, g, _, rfl, dg (gb.same _ _ (s0b _ _ hg)) (lg_states n d c ra), _, _, rfl, rfl, by omega, ?_⟩⟩
        refine ⟨_, rfl, _, rfl, g, _, rfl, dg (gb.same _ _ (s0b _ _ hg)) (lg_states n d c ra), b, n, rfl, gb.bag, by omega, by omega, fun q2 Hc q20 q2n sbc btc => ?_⟩
        have gc := gb.took sbc btc
        refine ⟨by show 2 ≤ sizeLine; decide, fun pd hpd => ?_⟩
        obtain ⟨Fd, gd, sd, atd⟩ := gc.put' (o := .lst [.int ((st + 1).fmod n), .int q2]) hpd
        refine ⟨b, pd, _, rfl, gd.bag, upd_same, gd.ne atd, by simp, (show 2 < 1000000 by decide), fun lv He hlv sbe bte => ?_⟩
        have ge := gd.took sbe bte
        obtain ⟨la, rfl, la0, lan⟩ : ∃ la, lv = .int la ∧ 0 ≤ la ∧ la < n := by
          simp only [List.mem_cons, List.not_mem_nil, or_false] at hlv
          rcases hlv with rfl | rfl
          · exact ⟨_, rfl, Int.fmod_nonneg_of_pos _ (by omega), Int.fmod_lt_of_pos _ (by omega)⟩
          · exact ⟨_, rfl, q20, q2n⟩
        have s0e := s0b.trans sd
        -- the door
        refine ⟨_, rfl, _, rfl, g, _, rfl, dg (ge.same _ _ (s0e _ _ hg)) (lg_doors n d c ra), b, d, _, rfl, ge.bag, ge.same _ _ (s0e _ _ hd), ge.ne (s0e _ _ hd), by simpa using dn, by rw [List.length_map]; exact Nat.lt_of_le_of_lt nd.len (by decide), fun dv Hf hdv sbf btf => ?_⟩
        obtain ⟨door, hdoor, rfl⟩ := mem_strs hdv
        have gf := ge.took sbf btf
        refine ⟨_, rfl, _, rfl, by show 3 ≤ sizeLine; decide, fun ph hph => ?_⟩
        obtain ⟨Fh, gh, sh, ath⟩ := gf.put' (o := .tup [.str door, .int st, .str kind]) hph
        have hDh := gh.but _ _ nDb hD7
        refine ⟨_, rfl, _, rfl, _, rfl, D, _, rfl, .inl ⟨SqL.of hDh, fun pi hpi => ?_⟩⟩
        obtain ⟨Fi, gi, si, ati⟩ := gh.put' (o := .tup (told.map V.str)) hpi
        refine ⟨by show 3 ≤ sizeLine; decide, fun pj hpj => ?_⟩
        obtain ⟨Fj, gj, sj, atj⟩ := gi.put' (o := .tup [.int la, .bl kp, .ref pi]) hpj
        refine ⟨by show 2 ≤ sizeLine; decide, fun pk hpk => ?_⟩
        obtain ⟨Fk, gk, sk, atk⟩ := gj.put' (o := .tup [.ref ph, .ref pj]) hpk
        refine k (.ref pk) ⟨door, st, kind, la, kp, told⟩ Fk _ (g7.trans gk) ?_ ⟨hdoor, st0, stn, kin, la0, lan, fun e => ⟨hkp e, fun w hw => min0 e w (ht7 w hw)⟩, fun w hw => min1 w (ht7 w hw), ?_⟩ ?_
        · exact ⟨pk, _, rfl, atk, _, _, rfl, ⟨ph, _, rfl, ((si.trans sj).trans sk) _ _ ath, _, _, rfl, rfl, _, _, rfl, rfl, _, _, rfl, rfl, rfl⟩,
            _, _, rfl, ⟨pj, _, rfl, sk _ _ atj, _, _, rfl, rfl, _, _, rfl, rfl, _, _, rfl, ⟨pi, _, rfl, (sj.trans sk) _ _ ati, RepAll.of_strs _⟩, rfl⟩, rfl⟩
        · show told.length ≤ 1000
          omega
        · show told.length ≤ 3
          omega
end
end K

set_option Elab.async false
set_option linter.all false
set_option maxRecDepth 100000
set_option maxHeartbeats 8000000
namespace K
open PySem PySem.Spec PyProof.Rows L2 G D L S C Sx Kx Ex Lt
open Fz hiding Fr
open C8 (pss_cut tCut)
open PySem.W (dataLt alike AllAlike Sortable)
/-- the rules that a dict of the law holds -/
structure LR (K : PySem.W.Frag) (F : Hp) (kvs : List (List Key × V)) (rs : List Rl) : Prop where
  ks : kvs.map (·.1) = rs.map Rl.key
  vs : RepAll K F (kvs.map (·.2)) (rs.map Rl.restD)
theorem LR.mono {K : PySem.W.Frag} {F F' : Hp} {kvs : List (List Key × V)} {rs : List Rl} (h : LR K F kvs rs) (s : Same F F') : LR K F' kvs rs := ⟨h.ks, RepAll.mono s _ h.vs⟩
/-- a rule put in, in the place of the one of its key or behind all -/
def putR (rs : List Rl) (ru : Rl) : List Rl := if (rs.any fun r => decide (r.key = ru.key)) = true then rs.map (fun r => if r.key = ru.key then ru else r) else rs ++ [ru]
theorem lr_map {K : PySem.W.Frag} {F : Hp} {ru : Rl} {v : V} (rv : Rep K F v ru.restD) : ∀ {rs : List Rl} {kvs : List (List Key × V)}, LR K F kvs rs →
    LR K F (kvs.map fun kv => if kv.1 = ru.key then (kv.1, v) else kv) (rs.map fun r => if r.key = ru.key then ru else r) ∧ (kvs.any fun kv => decide (kv.1 = ru.key)) = rs.any fun r => decide (r.key = ru.key)
  | [], kvs, h => by
    rw [List.map_eq_nil_iff.mp h.ks]
    exact ⟨⟨rfl, rfl⟩, rfl⟩
  | r :: rs, kvs, h => by
    match kvs, h with
    | (k1, v1) :: kvs, h =>
      have e := h.ks
      rw [List.map_cons, List.map_cons] at e
      injection e with e1 e2
      have e1 : k1 = r.key := e1
      obtain ⟨w, t, e3, hv, ht⟩ := h.vs
      rw [List.map_cons] at e3
      injection e3 with e4 e5
      have e4 : v1 = w := e4
      subst e4 e1
      obtain ⟨⟨i1, i2⟩, i3⟩ := lr_map rv (rs := rs) (kvs := kvs) ⟨e2, by rw [e5]; exact ht⟩
      refine ⟨⟨?_, ?_⟩, ?_⟩
      · rw [List.map_cons, List.map_cons, List.map_cons, List.map_cons, i1]
        by_cases q : r.key = ru.key
        · simp [q]
        · simp [q]
      · rw [List.map_cons, List.map_cons, List.map_cons, List.map_cons]
        by_cases q : r.key = ru.key
        · refine ⟨v, _, by simp only [if_pos q], ?_, i2⟩
          simp only [if_pos q]
          exact rv
        · refine ⟨v1, _, by simp only [if_neg q], ?_, i2⟩
          simp only [if_neg q]
          exact hv
      · rw [List.any_cons, List.any_cons, i3]
theorem lr_put {K : PySem.W.Frag} {F : Hp} {ru : Rl} {v : V} (rv : Rep K F v ru.restD) {rs : List Rl} {kvs : List (List Key × V)} (h : LR K F kvs rs) (nd : (rs.map Rl.key).Nodup) :
    LR K F (putK kvs ru.key v) (putR rs ru) ∧ ((putR rs ru).map Rl.key).Nodup ∧ (∀ r ∈ putR rs ru, r ∈ rs ∨ r = ru) ∧ (putR rs ru).length ≤ rs.length + 1 ∧ putR rs ru ≠ [] := by
  obtain ⟨m, e⟩ := lr_map rv h
  unfold putK putR
  rw [e]
  by_cases q : (rs.any fun r => decide (r.key = ru.key)) = true
  · rw [if_pos q, if_pos q]
    refine ⟨m, ?_, fun r hr => ?_, by rw [List.length_map]; omega, fun z => ?_⟩
    · have : (rs.map fun r => if r.key = ru.key then ru else r).map Rl.key = rs.map Rl.key := by
        rw [List.map_map]
        refine List.map_congr_left fun r _ => ?_
        show (if r.key = ru.key then ru else r).key = r.key
        by_cases z : r.key = ru.key
        · rw [if_pos z, z]
        · rw [if_neg z]
      rw [this]
      exact nd
    · obtain ⟨r0, h0, rfl⟩ := List.mem_map.mp hr
      by_cases z : r0.key = ru.key
      · rw [if_pos z]
        exact .inr rfl
      · rw [if_neg z]
        exact .inl h0
    · rw [List.map_eq_nil_iff.mp z] at q
      cases q
  · rw [if_neg q, if_neg q]
    refine ⟨⟨?_, ?_⟩, ?_, fun r hr => ?_, by rw [List.length_append]; exact Nat.le_refl _, by simp⟩
    · rw [List.map_append, List.map_append, h.ks]
      rfl
    · rw [List.map_append, List.map_append]
      exact RepAll.append h.vs (.one rv)
    · rw [List.map_append, List.nodup_append]
      refine ⟨nd, by simp, fun a ha b hb => ?_⟩
      rw [List.map_cons, List.map_nil, List.mem_singleton] at hb
      subst hb
      rintro rfl
      obtain ⟨r0, h0, e0⟩ := List.mem_map.mp ha
      exact q (List.any_eq_true.mpr ⟨r0, h0, decide_eq_true e0⟩)
    · rcases List.mem_append.mp hr with hr | hr
      · exact .inl hr
      · rw [List.mem_singleton] at hr
        exact .inr hr
/-- a dict of one's own, beside the frozen part -/
structure OwnT (b D : Addr) (F0 H0 F H : Hp) (kvs : List (List Key × V)) : Prop where
  go : Go b F0 H0 F H
  z0 : H0 D = none
  fD : F D = none
  nD : D ≠ b
  at1 : H D = some (.dT kvs)
theorem OwnT.on {b D : Addr} {F0 H0 F H F1 H1 : Hp} {kvs : List (List Key × V)} (a : OwnT b D F0 H0 F H kvs) (g : Go b F H F1 H1) : OwnT b D F0 H0 F1 H1 kvs :=
  ⟨a.go.trans g, a.z0, g.outside a.fD a.at1, a.nD, g.but _ _ a.nD a.at1⟩
theorem OwnT.set {b D : Addr} {F0 H0 F H : Hp} {kvs : List (List Key × V)} (a : OwnT b D F0 H0 F H kvs) (us : List (List Key × V)) : OwnT b D F0 H0 F (upd H D (.dT us)) us :=
  ⟨a.go.write a.z0 a.fD a.nD, a.z0, a.fD, a.nD, upd_same⟩
theorem OwnT.end {b D : Addr} {F0 H0 F H : Hp} {kvs : List (List Key × V)} (a : OwnT b D F0 H0 F H kvs) : Go b F0 H0 (upd F D (.dT kvs)) H ∧ Same F (upd F D (.dT kvs)) :=
  ⟨a.go.freeze a.z0 a.fD a.nD a.at1, same_upd a.fD⟩
theorem _root_.Fz.Go.fresh0 {b D : Addr} {F0 H0 F H : Hp} (a : Go b F0 H0 F H) (hD : H D = none) : H0 D = none ∧ D ≠ b ∧ F D = none := by
  have nD : D ≠ b := fun e => by
    obtain ⟨o, z⟩ := a.fr.some
    rw [e, z] at hD
    cases hD
  refine ⟨?_, nD, a.same.free hD⟩
  cases q : H0 D with
  | none => rfl
  | some u =>
    rw [a.but _ _ nD q] at hD
    cases hD
/-- the law's gate is drawn -/
def spDrawnGate (K : PySem.W.Frag) : Sp := fun vs H Q _ => ∃ (b : Addr) (n : Int) (v2 v3 : V) (ck : Bool) (F : Hp) (ds cs : List Str), vs = [.ref b, .int n, v2, v3, .bl ck] ∧ Fz.Fr F H b ∧ Rep K F v2 (.lst (ds.map .str)) ∧ Rep K F v3 (.lst (cs.map .str)) ∧
  1 ≤ n ∧ n ≤ 64 ∧ Names ds ∧ Names cs ∧ ds ≠ [] ∧ cs.length ≤ 16 ∧
  ∀ (g r : Addr) (kvs : List (List Key × V)) (rs : List Rl) (us ws : List Str) (F' H' : Hp), OwnT b r F H F' H' kvs → LG F' g n us ws r → us.Perm ds → ws.Perm cs → sortD (ds.map Dat.str) = us.map Dat.str → sortD (cs.map Dat.str) = ws.map Dat.str → LR K F' kvs rs → (rs.map Rl.key).Nodup → rs.length ≤ 7 → rs ≠ [] →
    (∀ ru ∈ rs, ru.Ok n us ws ∧ ru.told.length ≤ 3) → Q (.ref g) H'
section
variable {P : Program} {w : World} {K : PySem.W.Frag} {mg : Str → Option Value} {base : Heap}
abbrev s_law_drawn_gate : Stmt := top 24
theorem sc_law_drawn_gate : FnScope ["bag", "states", "doors", "closet", "can_keep", "gate", "k", "key", "rest"] ["bag", "states", "doors", "closet", "can_keep"] (defScope s_law_drawn_gate) := ⟨rfl, rfl, rfl, by decide +kernel, rfl, by decide +kernel, by decide +kernel⟩
theorem ok_drawn_gate {f : Addr} {fd : FuncData} (F : Fun K "_law_drawn_gate" "_law_drawn_gate" s_law_drawn_gate f fd) (T : Bl mg)
    (D_law_take : Def P w K mg base 2 "_law_take" ["bag", "many"] spTake) (D_law_drawn_rule : Def P w K mg base 4 "_law_drawn_rule" ["bag", "gate", "can_keep"] (spDrawnRule K)) :
    Fn P w K mg base CX0 5 f fd ["bag", "states", "doors", "closet", "can_keep"] (spDrawnGate K) := by
  refine fn_calm F sc_law_drawn_gate (fun vs H Q E h => ?_) (fun cdv A outer s H vs Q E hc hr h => ?_)
  · obtain ⟨b, n, v2, v3, ck, F, ds, cs, rfl, _⟩ := h
    rfl
  · obtain ⟨b, n, v2, v3, ck, F0, ds, cs, rfl, fr, ⟨p2, x2, rfl, hp2, hx2⟩, ⟨p3, x3, rfl, hp3, hx3⟩, n1, n64, nd, nc, dn, lc, k⟩ := h
    have hu := hu_of hr
    have hu64 := hr.units
    refine ⟨_, (pss_cons (ps_set (i := 5) sc_law_drawn_gate.nd rfl (Or.inl rfl) (pe_disp (pps_cons pe_str (pv 1) (pps_cons pe_str (pe_callB (call_sorted hu64) (by rfl) T.sortedN (by decide +kernel) (pa_cons (pv 2) pa_nil)) (pps_cons pe_str (pe_callB (call_sorted hu64) (by rfl) T.sortedN (by decide +kernel) (pa_cons (pv 3) pa_nil)) (pps_cons pe_str pe_dnewT pps_nil)))) (by rfl) (by rfl) (fun z => by cases z) (by decide)))
 (pss_cons (ps_for PassesOwn.never rfl (pi_range1 rfl T.rangeN (pa_cons (pe_op op_add (pe_op op_add pe_int (pe_def D_law_take hc (hr.mono (by decide)) (pa_cons (pv 0) (pa_cons pe_int pa_nil)))) (pe_def D_law_take hc (hr.mono (by decide)) (pa_cons (pv 0) (pa_cons pe_int pa_nil)))) pa_nil)) (pg_name (i := 6) sc_law_drawn_gate.nd rfl (Or.inl rfl))
  (pss_cons (ps_asg (pe_def D_law_drawn_rule hc (hr.mono (by decide)) (pa_cons (pv 0) (pa_cons (pv 5) (pa_cons (pv 4) pa_nil)))) (pg_tup (by rfl) (pgs_cons (pg_name (i := 7) sc_law_drawn_gate.nd rfl (Or.inl rfl)) (pgs_cons (pg_name (i := 8) sc_law_drawn_gate.nd rfl (Or.inl rfl)) pgs_nil))))
 (pss_one (ps_dput hu (pe_dget hu (pv 5) pe_str (fun _ _ => rfl)) (pv 7) (pv 8) rfl))))
 (pss_one (ps_ret (pv 5))))), ?_⟩
    intro g hg0
    have fr1 := fr.grow (same_upd (o := .dK []) hg0)
    have go1 := (Go.refl fr).grow (same_upd (o := .dK []) hg0)
    obtain ⟨_, ngb, fg0⟩ := (Go.refl fr).fresh0 hg0
    have agg : (upd H g (.dK [])) g = some (.dK []) := upd_same
    generalize upd H g (.dK []) = H1 at fr1 go1 agg
    have g1 := Go.refl fr1
    obtain ⟨us, eus, pus⟩ := sort_strs ds
    obtain ⟨ws, ews, pws⟩ := sort_strs cs
    refine ⟨_, rfl, _, rfl, p2, x2, ds.map .str, F0, rfl, g1.same _ _ hp2, g1.same, hx2, ord_strs ds, fun d ys hd0 ry _ => ?_⟩
    rw [eus] at ry
    obtain rfl := RepAll.strs ry
    obtain ⟨F2, g2, s2, at2⟩ := g1.put' (o := .lst (us.map .str)) hd0
    have ag2 := (same_upd (o := .lst (us.map V.str)) hd0) _ _ agg
    refine ⟨_, rfl, p3, x3, cs.map .str, F0, rfl, g2.same _ _ (s2 _ _ hp3), s2.trans g2.same, hx3, ord_strs cs, fun c zs hc0 rz _ => ?_⟩
    rw [ews] at rz
    obtain rfl := RepAll.strs rz
    obtain ⟨F3, g3, s3, at3⟩ := g2.put' (o := .lst (ws.map .str)) hc0
    have ag3 := (same_upd (o := .lst (ws.map V.str)) hc0) _ _ ag2
    intro r hr0
    obtain ⟨zr, nrb, fr3⟩ := (go1.trans g3).fresh0 hr0
    have g4 := g3.grow (same_upd (o := .dT []) hr0)
    have ag4 := (same_upd (o := .dT []) hr0) _ _ ag3
    have rg : r ≠ g := fun z => by rw [z, ag3] at hr0; cases hr0
    have ar4 : (upd (upd (upd H1 d (.lst (us.map V.str))) c (.lst (ws.map V.str))) r (.dT [])) r = some (.dT []) := upd_same
    generalize upd (upd (upd H1 d (.lst (us.map V.str))) c (.lst (ws.map V.str))) r (.dT []) = H4 at g4 ag4 ar4
    have fg3 : F3 g = none := g4.outside fg0 agg
    refine ⟨ag4, lgd n d c r, rfl, (show 4 ≤ 15 by decide), ?_⟩
    have g5 := (go1.trans g4).write (o := .dK (mergeK [] (lgd n d c r))) hg0 fg3 ngb
    have g6 := g5.freeze hg0 fg3 ngb (o := .dK (lgd n d c r)) upd_same
    have s6 : Same F3 (upd F3 g (.dK (lgd n d c r))) := same_upd fg3
    have lg6 : LG (upd F3 g (.dK (lgd n d c r))) g n us ws r := ⟨d, c, upd_same, s6 _ _ (s3 _ _ at2), s6 _ _ at3⟩
    have fr6 : (upd F3 g (.dK (lgd n d c r))) r = none := by rw [upd_ne rg]; exact fr3
    have ar6 : (upd H4 g (.dK (mergeK [] (lgd n d c r)))) r = some (.dT []) := by rw [upd_ne rg]; exact ar4
    have own6 : OwnT b r F0 H (upd F3 g (.dK (lgd n d c r))) (upd H4 g (.dK (mergeK [] (lgd n d c r)))) [] := ⟨g6, zr, fr6, nrb, ar6⟩
    generalize upd F3 g (.dK (lgd n d c r)) = F6 at own6 lg6
    generalize upd H4 g (.dK (mergeK [] (lgd n d c r))) = H6 at own6
    refine ⟨_, rfl, b, 4, rfl, own6.go.bag, by decide, by decide, fun k1 H7 a0 a1 sb7 bt7 => ?_⟩
    have own7 := own6.on ((Go.refl own6.go.fr).took sb7 bt7)
    refine ⟨_, _, rfl, rfl, _, rfl, b, 4, rfl, own7.go.bag, by decide, by decide, fun k2 H8 b0 b1 sb8 bt8 => ?_⟩
    have own8 := own7.on ((Go.refl own7.go.fr).took sb8 bt8)
    refine ⟨_, _, rfl, rfl, _, rfl, by omega, by omega, ?_⟩
    have nus : Names us := ⟨pus.nodup_iff.mpr nd.nd, fun w hw => nd.ok w (pus.mem_iff.mp hw), by rw [pus.length_eq]; exact nd.len⟩
    have nws : Names ws := ⟨pws.nodup_iff.mpr nc.nd, fun w hw => nc.ok w (pws.mem_iff.mp hw), by rw [pws.length_eq]; exact nc.len⟩
    have une : us ≠ [] := fun z => dn (List.length_eq_zero_iff.mp (by rw [← pus.length_eq, z]; rfl))
    have lws : ws.length ≤ 16 := by rw [pws.length_eq]; exact lc
    refine for_range (n := (1 + k1 + k2).toNat) (fun i σ H' => ∃ (F' : Hp) (kvs : List (List Key × V)) (rs : List Rl) (o6 o7 o8 : Option V), σ = [some (.ref b), some (.int n), some (.ref p2), some (.ref p3), some (.bl ck), some (.ref g), o6, o7, o8] ∧
      OwnT b r F0 H F' H' kvs ∧ Same F6 F' ∧ LR K F' kvs rs ∧ (rs.map Rl.key).Nodup ∧ rs.length ≤ i ∧ (0 < i → rs ≠ []) ∧ ∀ ru ∈ rs, ru.Ok n us ws ∧ ru.told.length ≤ 3)
      ⟨F6, [], [], none, none, none, rfl, own8, .refl _, ⟨rfl, rfl⟩, by simp, Nat.le_refl _, fun z => absurd z (Nat.lt_irrefl 0), fun _ h => nomatch h⟩ ?_ ?_
    · rintro i σ H9 hi ⟨F9, kvs, rs, o6, o7, o8, rfl, own9, s9, lr, ndk, lrs, rne, oks⟩
      refine ⟨_, rfl, _, rfl, _, rfl, b, g, r, ck, F9, n, us, ws, rfl, own9.go.fr, lg6.mono s9, n1, n64, nus, nws, une, lws, fun v ru F10 H10 g10 rv okr tl => ?_⟩
      obtain ⟨pk, _, rfl, hpk, v1, _, rfl, e1, v2, _, rfl, e2, rfl⟩ := rv
      have own10 := own9.on g10
      have hpk' := g10.same _ _ hpk
      obtain ⟨ph, _, rfl, hph, y1, _, rfl, q1, y2, _, rfl, q2, y3, _, rfl, q3, rfl⟩ := e1
      obtain rfl : y1 = .str ru.door := q1
      obtain rfl : y2 = .int ru.state := q2
      obtain rfl : y3 = .str ru.kind := q3
      obtain ⟨d', c', hg', _, _⟩ := (lg6.mono (s9.trans g10.up)).ex
      have lk : kvs.length ≤ 100 := by
        have := congrArg List.length lr.ks
        rw [List.length_map, List.length_map] at this
        omega
      obtain ⟨l1, l2, l3, l4, l5⟩ := lr_put e2 (lr.mono g10.up) ndk
      refine ⟨pk, _, rfl, SqT.of hpk', rfl, _, _, rfl, _, _, rfl, rfl, _, rfl, _, rfl, g, _, rfl, dg (g10.same _ _ hg') (lg_rules n d' c' r), _, rfl, r, _, rfl, .inr ⟨kvs, ru.key, ph, own10.at1, rfl, g10.same _ _ hph, Nat.lt_of_le_of_lt lk (by decide), rfl⟩,
        F10, putK kvs ru.key v2, putR rs ru, _, _, _, rfl, own10.set _, s9.trans g10.up, l1, l2, by omega, fun _ z => ?_, fun q hq => ?_⟩
      · unfold putR at z
        split at z
        · rename_i h
          obtain ⟨q, hq, _⟩ := List.any_eq_true.mp h
          rw [List.map_eq_nil_iff] at z
          rw [z] at hq
          cases hq
        · simp at z
      rcases l3 q hq with h | rfl
      · exact oks q h
      · exact ⟨okr, tl⟩
    · rintro σ H9 ⟨F9, kvs, rs, o6, o7, o8, rfl, own9, s9, lr, ndk, lrs, rne, oks⟩
      exact ⟨_, rfl, k g r kvs rs us ws F9 H9 own9 (lg6.mono s9) pus pws eus ews lr ndk (by omega) (rne (by omega)) oks⟩
end
end K

set_option Elab.async false
set_option linter.all false
set_option maxRecDepth 100000
set_option maxHeartbeats 4000000
/-! A comprehension that makes a new datum of each item. -/
namespace C
open PySem PySem.Spec PyProof.Rows L2 G D L S
section
variable {J : It} {n : Nat} {G : Hp → Prop} {Y : Nat → Hp → V → Hp → Prop} {K : PySem.W.Frag}
theorem lc_rep {α : Type} (w : Walk J n G Y) (xs : List α) (f : α → Dat) {g : TG} {te : TE} {vs : List Nat} {σ : L2.St} {H1 B : Hp} {D : Addr}
    {Qd : Hp → Prop} (hB : Same B H1) (hn : xs.length = n) (hz : n < sizeLine) (hD : H1 D = none) (hG : ∀ H, Same H1 H → G H)
    (turn : ∀ (i : Nat) (a : α) (x : V) (F H H' : Hp) (Kt : V → Hp → Prop), xs[i]? = some a → Same B F → Same F H → Same H1 H → Y i H x H' →
      (∀ v F4 H4, Same F F4 → Same F4 H4 → Same H H4 → (∀ y o, F4 y = some o → F y = some o ∨ H y = none) → Rep K F4 v (f a) → Kt v H4) →
      g x (wipe σ vs) H' fun σ2 H2 => wipe σ2 vs = wipe σ vs ∧ te σ2 H2 Kt)
    (done : ∀ F H ys, Same B F → Same F H → Same H1 H → (∀ y o, F y = some o → B y = some o ∨ H1 y = none) → F D = none → H D = some (.lst ys) → RepAll K F ys (xs.map f) → Qd H) :
    ∃ W : Nat → Nat → Hp → Prop, (∃ m, W 0 m (upd H1 D (.lst []))) ∧ ∀ i m H, W i m H →
      (J.stop i H ∧ Qd H) ∨ (J.go i H ∧ ∃ Nx : Hp → Prop, (∀ H', Nx H' → ∃ m', m' < m ∧ W (i + 1) m' H') ∧ ∀ x H', J.yld i H x H' →
        g x (wipe σ vs) H' fun σ2 H2 => wipe σ2 vs = wipe σ vs ∧ tYes σ2 H2 fun b H3 =>
          if b = true then te σ2 H3 fun y H4 => ∃ acc, H4 D = some (.lst acc) ∧ acc.length < sizeLine ∧ Nx (upd H4 D (.lst (acc ++ [y]))) else Nx H3) := by
  refine lc_it w (fun i H => ∃ F ys, Same B F ∧ Same F H ∧ Same H1 H ∧ (∀ y o, F y = some o → B y = some o ∨ H1 y = none) ∧ F D = none ∧ H D = some (.lst ys) ∧ RepAll K F ys ((xs.take i).map f))
    ⟨B, [], .refl _, hB.trans (same_upd hD), same_upd hD, fun _ _ e => .inl e, hB.free hD, upd_same, rfl⟩ (fun i H _ ⟨F, ys, _, _, h3, _⟩ => hG H h3) ?_ ?_
  · rintro i x H H' hi ⟨F, ys, s1, s2, s3, nB, fD, hd, hr⟩ hy
    have hx : xs[i]? = some xs[i] := List.getElem?_eq_getElem (by omega)
    refine turn i _ x F H H' _ hx s1 s2 s3 hy fun v F4 H4 sF s4 sH nw rv => ?_
    have f4 : F4 D = none := by
      cases q : F4 D with
      | none => rfl
      | some o =>
        rcases nw _ _ q with z | z
        · rw [fD] at z; cases z
        · rw [hd] at z; cases z
    have ly := hr.length
    refine ⟨ys, sH _ _ hd, ?_, F4, ys ++ [v], s1.trans sF, fun y o e => ?_, fun y o e => ?_, fun y o e => ?_, f4, upd_same, ?_⟩
    · rw [ly, List.length_map]
      have := List.length_take_le i xs
      omega
    · rw [upd_ne (fun z => by rw [z, f4] at e; cases e)]
      exact s4 _ _ e
    · rw [upd_ne (ne_of_none e hD)]
      exact sH _ _ (s3 _ _ e)
    · rcases nw _ _ e with z | z
      · exact nB _ _ z
      · exact .inr (s3.free z)
    · rw [List.take_add_one, hx, List.map_append]
      exact RepAll.append (RepAll.mono sF _ hr) (.one rv)
  · rintro H ⟨F, ys, s1, s2, s3, nB, fD, hd, hr⟩
    rw [← hn, List.take_length] at hr
    exact done F H ys s1 s2 s3 nB fD hd hr
end
end C
namespace Fz
open PySem PySem.Spec PyProof.Rows L2 G D L S C
section
variable {b : Addr} {F0 H0 F1 H1 F' H2 : Hp}
/-- the frozen part grows by what is new -/
theorem Go.ext (a : Go b F0 H0 F1 H1) (sF : Same F1 F') (s' : Same F' H2) (sH : Same H1 H2) (nw : ∀ y o, F' y = some o → F1 y = some o ∨ H1 y = none) : Go b F0 H0 F' H2 := by
  refine ⟨⟨s', ?_, a.fr.cell' sH sF⟩, a.up.trans sF, a.but.same sH, fun y o e => ?_⟩
  · cases q : F' b with
    | none => rfl
    | some u =>
      rcases nw _ _ q with z | z
      · rw [a.out] at z; cases z
      · obtain ⟨o, e⟩ := a.fr.some
        rw [e] at z; cases z
  · rcases nw _ _ e with z | z
    · exact a.new _ _ z
    · refine .inr ?_
      by_cases q : y = b
      · obtain ⟨o, e⟩ := a.fr.some
        rw [q, e] at z; cases z
      · cases hh : H0 y with
        | none => rfl
        | some u =>
          rw [a.but _ _ q hh] at z
          cases z
/-- all that is new is frozen -/
theorem Go.all (a : Go b F0 H0 F1 H1) (s : Same H1 H2) : ∃ F2, Go b F0 H0 F2 H2 ∧ Same F1 F2 ∧ ∀ y o, H1 y = none → H2 y = some o → F2 y = some o := by
  refine ⟨fun y => if (H1 y).isSome then F1 y else H2 y, a.ext (fun y o e => ?_) (fun y o e => ?_) s (fun y o e => ?_), fun y o e => ?_, fun y o h e => ?_⟩
  · show (if (H1 y).isSome then F1 y else H2 y) = _
    rw [a.same _ _ e]; exact e
  · revert e
    show (if (H1 y).isSome then F1 y else H2 y) = _ → _
    split
    · intro e; exact s _ _ (a.same _ _ e)
    · exact id
  · revert e
    show (if (H1 y).isSome then F1 y else H2 y) = _ → _
    split
    · exact .inl
    · rename_i h
      intro _
      refine .inr ?_
      cases q : H1 y with
      | none => rfl
      | some u => rw [q] at h; exact absurd rfl h
  · show (if (H1 y).isSome then F1 y else H2 y) = _
    rw [a.same _ _ e]; exact e
  · show (if (H1 y).isSome then F1 y else H2 y) = _
    rw [h]; exact e
end
end Fz

set_option Elab.async false
set_option linter.all false
set_option maxRecDepth 100000
set_option maxHeartbeats 8000000
namespace K
open PySem PySem.Spec PyProof.Rows L2 G D L S C Sx Kx Ex Lt
open Fz hiding Fr
open C8 (pss_cut tCut)
open PySem.W (dataLt alike AllAlike Sortable)
/-- two tuples, one behind the other -/
def spRow (K : PySem.W.Frag) : Sp := fun vs H Q _ => ∃ (p q : Addr) (xs ys : List V), vs = [.ref p, .ref q] ∧ H p = some (.tup xs) ∧ H q = some (.tup ys) ∧ xs ≠ [] ∧ ys ≠ [] ∧ xs.length + ys.length ≤ 100 ∧
  ∀ t, H t = none → Q (.ref t) (upd H t (.tup (xs ++ ys)))
/-- the law's rules in order -/
def spSortedRules (K : PySem.W.Frag) : Sp := fun vs H Q _ => ∃ (g r : Addr) (n : Int) (ds cs : List Str) (kvs : List (List Key × V)) (rs : List Rl) (Gf : Hp), vs = [.ref g] ∧ Same Gf H ∧ LG H g n ds cs r ∧ H r = some (.dT kvs) ∧ LR K Gf kvs rs ∧ rs.length ≤ 100 ∧ (rs.map Rl.key).Nodup ∧
  ∀ v es F' H', Same H H' → Same Gf F' → Same F' H' → (∀ y o, F' y = some o → Gf y = some o ∨ H y = none) → Rep K F' v (.lst es) → es = sortD (rs.map Rl.dat) → Q v H'
/-- what stands at r is nothing that data are made of -/
structure NoD (o : HO) : Prop where
  h1 : ∀ xs, o ≠ .lst xs
  h2 : ∀ xs, o ≠ .tup xs
  h3 : ∀ kvs, o ≠ .dK kvs
  h4 : ∀ C dx fs, o ≠ .ins C dx fs
section
variable {K : PySem.W.Frag} {H H' : Hp} {r : Addr}
mutual
theorem rep_off (no : ∀ o, H r = some o → NoD o) (e : ∀ y, y ≠ r → H' y = H y) : ∀ (d : Dat) {v : V}, Rep K H v d → Rep K H' v d
  | .non, _, h => h
  | .bl _, _, h => h
  | .int _, _, h => h
  | .str _, _, h => h
  | .lst ds, _, ⟨a, xs, q, ha, hs⟩ => ⟨a, xs, q, by rw [e a (fun z => by rw [z] at ha; exact (no _ ha).h1 _ rfl)]; exact ha, repAll_off no e ds hs⟩
  | .tup ds, _, ⟨a, xs, q, ha, hs⟩ => ⟨a, xs, q, by rw [e a (fun z => by rw [z] at ha; exact (no _ ha).h2 _ rfl)]; exact ha, repAll_off no e ds hs⟩
  | .dct ks ds, _, ⟨a, kvs, q, ha, hk, hs⟩ => ⟨a, kvs, q, by rw [e a (fun z => by rw [z] at ha; exact (no _ ha).h3 _ rfl)]; exact ha, hk, repAll_off no e ds hs⟩
  | .obj C a, _, ⟨q, oc, dx, fs, ha⟩ => ⟨q, oc, dx, fs, by rw [e a (fun z => by rw [z] at ha; exact (no _ ha).h4 _ _ _ rfl)]; exact ha⟩
theorem repAll_off (no : ∀ o, H r = some o → NoD o) (e : ∀ y, y ≠ r → H' y = H y) : ∀ (ds : List Dat) {vs : List V}, RepAll K H vs ds → RepAll K H' vs ds
  | [], _, h => h
  | d :: ds, _, ⟨v, t, q, h1, h2⟩ => ⟨v, t, q, rep_off no e d h1, repAll_off no e ds h2⟩
end
theorem lg_off {g : Addr} {n : Int} {ds cs : List Str} {q : Addr} (no : ∀ o, H r = some o → NoD o) (e : ∀ y, y ≠ r → H' y = H y) (h : LG H g n ds cs q) : LG H' g n ds cs q := by
  obtain ⟨d, c, h1, h2, h3⟩ := h.ex
  refine ⟨d, c, ?_, ?_, ?_⟩
  · rw [e g (fun z => by rw [z] at h1; exact (no _ h1).h3 _ rfl)]; exact h1
  · rw [e d (fun z => by rw [z] at h2; exact (no _ h2).h1 _ rfl)]; exact h2
  · rw [e c (fun z => by rw [z] at h3; exact (no _ h3).h1 _ rfl)]; exact h3
end
theorem nod_dT (kvs : List (List Key × V)) : NoD (.dT kvs) := ⟨fun _ h => (nomatch h), fun _ h => (nomatch h), fun _ h => (nomatch h), fun _ _ _ h => (nomatch h)⟩
theorem nod_frz (o : Obj) (u : HO) : NoD (.frz o u) := ⟨fun _ h => (nomatch h), fun _ h => (nomatch h), fun _ h => (nomatch h), fun _ _ _ h => (nomatch h)⟩
section
variable {P : Program} {w : World} {K : PySem.W.Frag} {mg : Str → Option Value} {base : Heap}
abbrev s_law_rule_row : Stmt := top 21
theorem sc_law_rule_row : FnScope ["key", "rest"] ["key", "rest"] (defScope s_law_rule_row) := ⟨rfl, rfl, rfl, by decide +kernel, rfl, by decide +kernel, by decide +kernel⟩
theorem ok_rule_row {f : Addr} {fd : FuncData} (F : Fun K "_law_rule_row" "_law_rule_row" s_law_rule_row f fd) : Fn P w K mg base CX0 1 f fd ["key", "rest"] (spRow K) := by
  refine fn_calm F sc_law_rule_row (fun vs H Q E h => ?_) (fun cdv A outer s H vs Q E hc hr h => ?_)
  · obtain ⟨p, q, xs, ys, rfl, _⟩ := h
    rfl
  · obtain ⟨p, q, xs, ys, rfl, hp, hq, nx, ny, hl, k⟩ := h
    refine ⟨_, (pss_one (ps_ret (pe_op op_catT (pv 0) (pv 1)))), ?_⟩
    exact ⟨_, rfl, _, rfl, p, q, xs, ys, rfl, rfl, SqT.of hp, SqT.of hq, nx, Nat.le_trans hl (by decide), fun z => absurd z ny, fun _ => k⟩
abbrev s_law_sorted_rules : Stmt := top 22
theorem sc_law_sorted_rules : FnScope ["gate", "key"] ["gate"] (defScope s_law_sorted_rules) := ⟨rfl, rfl, rfl, by decide +kernel, rfl, by decide +kernel, by decide +kernel⟩
theorem ok_sorted_rules {f : Addr} {fd : FuncData} (F : Fun K "_law_sorted_rules" "_law_sorted_rules" s_law_sorted_rules f fd) (T : Bl mg)
    (D_law_rule_row : Def P w K mg base 1 "_law_rule_row" ["key", "rest"] (spRow K)) : Fn P w K mg base CX0 2 f fd ["gate"] (spSortedRules K) := by
  refine fn_calm F sc_law_sorted_rules (fun vs H Q E h => ?_) (fun cdv A outer s H vs Q E hc hr h => ?_)
  · obtain ⟨g, r, n, ds, cs, kvs, rs, Gf, rfl, _⟩ := h
    rfl
  · obtain ⟨g, r, n, ds, cs, kvs, rs, Gf, rfl, sGf, lg, hR, lr, hl, nd, k⟩ := h
    have hu := hu_of hr
    have hu64 := hr.units
    have lk : rs.length = kvs.length := by
      have := congrArg List.length lr.ks
      rw [List.length_map, List.length_map] at this
      exact this.symm
    refine ⟨_, (pss_one (ps_ret (pe_callB (call_sorted hu64) (by rfl) T.sortedN (by decide +kernel) (pa_cons (pe_lock (pe_lc (own := [("key", 1)]) (g := gName 1) (tt := tYes) rfl sc_law_sorted_rules.nd (pi_keys (pe_dget hu (pv 0) pe_str (fun _ _ => rfl))) (blkOk_by (N := ["gate", "key"]) (sc := defScope s_law_sorted_rules) (by decide +kernel)) (fun _ _ _ _ _ => (pg_name (i := 1) sc_law_sorted_rules.nd rfl (Or.inl rfl))) (fun _ _ _ _ _ => pts_nil) (fun _ _ _ _ _ => (pe_def D_law_rule_row hc (hr.mono (by decide)) (pa_cons (pv 1) (pa_cons (pe_dget hu (pe_dget hu (pv 0) pe_str (fun _ _ => rfl)) (pv 1) (fun _ _ => rfl)) pa_nil)))))) pa_nil)))), ?_⟩
    refine ⟨r, .dT kvs, hR, trivial, fun od => ?_⟩
    have noR : ∀ o, H r = some o → NoD o := fun o e => by rw [hR] at e; cases e; exact nod_dT kvs
    have noG : ∀ o, Gf r = some o → NoD o := fun o e => noR o (sGf _ _ e)
    have offL : ∀ y, y ≠ r → (upd H r (.frz od (.dT kvs))) y = H y := fun y z => upd_ne z
    have lgL := lg_off noR offL lg
    have atL : (upd H r (.frz od (.dT kvs))) r = some (.frz od (.dT kvs)) := upd_same
    -- the frozen part without the dict
    obtain ⟨B, eB, Br⟩ : ∃ B : Hp, (∀ y, y ≠ r → B y = Gf y) ∧ B r = none := ⟨fun y => if y = r then none else Gf y, fun y z => if_neg z, if_pos rfl⟩
    have vsB := repAll_off noG eB _ lr.vs
    have hB : Same B (upd H r (.frz od (.dT kvs))) := fun y o e => by
      have z : y ≠ r := fun z => by rw [z, Br] at e; cases e
      rw [offL y z]
      exact sGf _ _ (by rw [← eB y z]; exact e)
    have freeL : ∀ y, (upd H r (.frz od (.dT kvs))) y = none → H y = none := fun y e => by
      have z : y ≠ r := fun z => by rw [z, atL] at e; cases e
      rw [← offL y z]; exact e
    have back : ∀ H', Same (upd H r (.frz od (.dT kvs))) H' → Same H (upd H' r (.dT kvs)) := by
      intro H' s y o e
      by_cases q : y = r
      · rw [q, upd_same, ← hR, ← q, e]
      · rw [upd_ne q]
        exact s _ _ (by rw [upd_ne q]; exact e)
    generalize upd H r (.frz od (.dT kvs)) = HL at lgL hB atL back freeL
    clear offL
    obtain ⟨d, c, hg, _, _⟩ := lgL.ex
    refine ⟨_, rfl, g, _, rfl, dg hg (lg_rules n d c r), r, od, rfl, .inr ⟨kvs, atL, fun D hD => ?_⟩⟩
    refine lc_rep (K := K) walk_keysT rs Rl.dat hB lk (by rw [← lk]; exact Nat.lt_of_le_of_lt hl (by decide)) hD (fun H' s => s _ _ atL) ?_ ?_
    · rintro i ru x F' H1 H2 Kt hru sF sH sL ⟨rfl, k1, v1, q, hk1, rfl, hq⟩ kt
      have ek : k1 = ru.key := by
        have e1 : (kvs.map (·.1))[i]? = some k1 := by rw [List.getElem?_map, hk1]; rfl
        rw [lr.ks, List.getElem?_map, hru] at e1
        exact (Option.some.inj e1).symm
      subst ek
      have hv : Rep K B v1 ru.restD := by
        obtain ⟨d1, hd1, rd1⟩ := vsB.get (i := i) (v := v1) (by rw [List.getElem?_map, hk1]; rfl)
        rw [List.getElem?_map, hru] at hd1
        rw [Option.some.inj hd1]
        exact rd1
      have vv : valV kvs ru.key = some v1 := valV_at (by rw [lr.ks]; exact nd) hk1
      obtain ⟨pv, _, rfl, hpv, y1, _, rfl, e1, y2, _, rfl, e2, y3, _, rfl, e3, rfl⟩ := hv
      obtain rfl : y1 = .int ru.later := e1
      obtain rfl : y2 = .bl ru.keeps := e2
      refine ⟨rfl, _, rfl, _, rfl, g, _, rfl, dg (sL _ _ hg) (lg_rules n d c r), _, rfl, r, _, rfl, .inr ⟨kvs, ru.key, q, .inr ⟨od, sL _ _ atL⟩, rfl, hq, vv.symm⟩, q, pv, _, _, rfl, hq, sH _ _ (sF _ _ hpv), by simp [Rl.key], by simp, (show 3 + 3 ≤ 100 by decide), fun t ht => ?_⟩
      have ft : F' t = none := sH.free ht
      refine kt (.ref t) (upd F' t (.tup (ru.key.map kV ++ [.int ru.later, .bl ru.keeps, y3]))) _ (same_upd ft) (fun y o e => ?_) (same_upd ht) (fun y o e => ?_) ?_
      · by_cases z : y = t
        · rw [z, upd_same] at e ⊢
          exact e
        · rw [upd_ne z] at e ⊢
          exact sH _ _ e
      · by_cases z : y = t
        · rw [z]; exact .inr ht
        · rw [upd_ne z] at e
          exact .inl e
      · exact ⟨t, _, rfl, upd_same, _, _, rfl, rfl, _, _, rfl, rfl, _, _, rfl, rfl, _, _, rfl, rfl, _, _, rfl, rfl, _, _, rfl, Rep.mono (sF.trans (same_upd ft)) _ e3, rfl⟩
    · intro F' H1 ys s1 s2 s12 nB fD hD1 hys
      refine ⟨s12 _ _ atL, ?_⟩
      have Dr : D ≠ r := fun z => by rw [z, atL] at hD; cases hD
      -- the frozen part with the dict again
      obtain ⟨F4, e4, F4r⟩ : ∃ F4 : Hp, (∀ y, y ≠ r → F4 y = F' y) ∧ F4 r = Gf r := ⟨fun y => if y = r then Gf r else F' y, fun y z => if_neg z, if_pos rfl⟩
      have noF : ∀ o, F' r = some o → NoD o := fun o e => by
        have := s2 _ _ e
        rw [s12 _ _ atL] at this
        cases this
        exact nod_frz _ _
      have sU : Same F4 (upd H1 r (.dT kvs)) := fun y o e => by
        by_cases z : y = r
        · rw [z, F4r] at e
          rw [z, upd_same, ← hR]
          exact sGf _ _ e
        · rw [e4 y z] at e
          rw [upd_ne z]
          exact s2 _ _ e
      refine ⟨D, ys, rs.map Rl.dat, F4, rfl, by rw [upd_ne Dr]; exact hD1, sU, repAll_off noF e4 _ hys, ord_rules rs, fun p zs hp hz lz => ?_⟩
      have sp := same_upd (o := .lst zs) hp
      have fp : F4 p = none := sU.free hp
      refine k (.ref p) (sortD (rs.map Rl.dat)) (upd F4 p (.lst zs)) _ ((back _ s12).trans sp) (fun y o e => ?_) (fun y o e => ?_) (fun y o e => ?_) ⟨p, zs, rfl, upd_same, RepAll.mono (same_upd fp) _ hz⟩ rfl
      · refine same_upd fp _ _ ?_
        by_cases z : y = r
        · rw [z, F4r, ← z]; exact e
        · rw [e4 y z]
          exact s1 _ _ (by rw [eB y z]; exact e)
      · by_cases z : y = p
        · rw [z, upd_same] at e ⊢
          exact e
        · rw [upd_ne z] at e ⊢
          exact sU _ _ e
      · by_cases z : y = p
        · refine .inr ?_
          rw [z]
          exact ((back _ s12).free hp)
        · rw [upd_ne z] at e
          by_cases z2 : y = r
          · rw [z2, F4r, ← z2] at e
            exact .inl e
          · rw [e4 y z2] at e
            rcases nB _ _ e with q | q
            · rw [eB y z2] at q
              exact .inl q
            · exact .inr (freeL _ q)
end
end K

set_option Elab.async false
set_option linter.all false
set_option maxRecDepth 100000
set_option maxHeartbeats 8000000
namespace K
open PySem PySem.Spec PyProof.Rows L2 G D L S C Sx Kx Ex Lt Qe De Er
open Fz hiding Fr
open C8 (pss_cut tCut)
open PySem.W (dataLt alike AllAlike Sortable)
theorem perm_map {α β : Type} {f : α → β} {es xs : List β} (h : es.Perm xs) : ∀ rs : List α, xs = rs.map f → ∃ rs' : List α, es = rs'.map f ∧ rs'.Perm rs := by
  induction h with
  | nil => intro rs e; exact ⟨rs, e, .refl _⟩
  | cons x _ ih =>
    intro rs e
    match rs, e with
    | r :: rs, e =>
      rw [List.map_cons] at e
      injection e with e1 e2
      obtain ⟨rs', e3, p⟩ := ih rs e2
      exact ⟨r :: rs', by rw [List.map_cons, ← e3, e1], p.cons r⟩
  | swap x y l =>
    intro rs e
    match rs, e with
    | r :: q :: rs, e =>
      rw [List.map_cons, List.map_cons] at e
      injection e with e1 e2
      injection e2 with e2 e3
      exact ⟨q :: r :: rs, by rw [List.map_cons, List.map_cons, ← e3, e1, e2], .swap r q rs⟩
  | trans _ _ ih1 ih2 =>
    intro rs e
    obtain ⟨rs1, e1, p1⟩ := ih2 rs e
    obtain ⟨rs2, e2, p2⟩ := ih1 rs1 e1
    exact ⟨rs2, e2, p2.trans p1⟩
theorem Names.perm {us ds : List Str} (h : Names ds) (p : us.Perm ds) : Names us := ⟨p.nodup_iff.mpr h.nd, fun w hw => h.ok w (p.mem_iff.mp hw), by rw [p.length_eq]; exact h.len⟩
/-- the law's gate, frozen -/
structure LGF (K : PySem.W.Frag) (F : Hp) (g : Addr) (n : Int) (ds cs : List Str) (rs : List Rl) : Prop where
  ex : ∃ r kvs, LG F g n ds cs r ∧ F r = some (.dT kvs) ∧ LR K F kvs rs
theorem LGF.mono {K : PySem.W.Frag} {F F' : Hp} {g : Addr} {n : Int} {ds cs : List Str} {rs : List Rl} (h : LGF K F g n ds cs rs) (s : Same F F') : LGF K F' g n ds cs rs := by
  obtain ⟨r, kvs, h1, h2, h3⟩ := h.ex
  exact ⟨r, kvs, h1.mono s, s _ _ h2, h3.mono s⟩
/-- its parts are well-formed -/
structure WfG (n : Int) (ds cs : List Str) (rs : List Rl) : Prop where
  n1 : 1 ≤ n
  n64 : n ≤ 64
  nd : Names ds
  nc : Names cs
  dn : ds ≠ []
  lc : cs.length ≤ 16
  ok : ∀ r ∈ rs, r.Ok n ds cs
  tl : ∀ r ∈ rs, r.told.length ≤ 4
  ks : (rs.map Rl.key).Nodup
  rl : rs.length ≤ 100
/-- a Gate of it -/
def spLawGate (K : PySem.W.Frag) (C : Addr) : Sp := fun vs H Q _ => ∃ (b g : Addr) (F : Hp) (n : Int) (ds cs : List Str) (rs : List Rl), vs = [.ref b, .ref g] ∧ Fz.Fr F H b ∧ LGF K F g n ds cs rs ∧ WfG n ds cs rs ∧
  ∀ (x : Addr) (us ws : List Str) (rs' : List Rl) (F' H' : Hp), Go b F H F' H' → GateAt K C F' x n us ws rs' → us.Perm ds → ws.Perm cs → rs'.Perm rs → Q (.ref x) H'
/-- a promise whose errors are wished away -/
theorem fn_calmE {P : Program} {w : World} {K : PySem.W.Frag} {mg : Str → Option Value} {base : Heap} {k : Nat} {f : Addr} {fd : FuncData} {ps : List Str} {sp : Sp} (F : Fn P w K mg base (L2.CX P w) k f fd ps sp) :
    Fn P w K mg base CX0 k f fd ps (fun vs H Q _ => sp vs H Q E0) := by
  refine ⟨fun vs H Q E h => F.len _ _ _ _ h, fun A outer s H args us vs Q E hc hr e b v h => codeAny_mono (F.go A outer s H args us vs Q E0 hc hr e b v h) ?_⟩
  rintro (er | fl) s' hq
  · obtain ⟨_, _, _, _, _, _, _, _, _, _, _, _, z⟩ := hq
    exact False.elim z
  · cases fl <;> exact hq
def spInit (K : PySem.W.Frag) (C : Addr) : Sp := fun vs H Q _ => ∃ (x dx : Addr) (n : Int) (v2 v3 v4 : V) (ds cs : List Str) (rs : List Rl) (G Gf : Hp), vs = [.ref x, .int n, v2, v3, v4] ∧ H x = some (.ins C dx []) ∧
  Same Gf G ∧ Same G H ∧ G x = none ∧ SeqOf K Gf v2 (ds.map .str) ∧ SeqOf K Gf v3 (cs.map .str) ∧ SeqOf K Gf v4 (rs.map Rl.dat) ∧ 1 ≤ n ∧ n ≤ 64 ∧ Names ds ∧ Names cs ∧ ds ≠ [] ∧ (∀ r ∈ rs, r.Ok n ds cs) ∧ (rs.map Rl.key).Nodup ∧ rs.length ≤ 1000 ∧
  ∀ H', Same G H' → GateN K C Gf G H' x n ds cs rs → Q .non H'
theorem dat_inj : ∀ {rs rs' : List Rl}, rs.map Rl.dat = rs'.map Rl.dat → rs = rs'
  | [], [], _ => rfl
  | [], _ :: _, h => by cases h
  | _ :: _, [], h => by cases h
  | r :: rs, q :: rs', h => by
    rw [List.map_cons, List.map_cons] at h
    injection h with h1 h2
    rw [dat_inj h2, (eqv_rule r q).mp (by
      rw [h1]
      exact (eqv_rule q q).mpr rfl)]
theorem txt_of_names {ws : List Str} (h : Names ws) : TxtOk ws := fun w hw => (tx_name (h.ok w hw)).ok
theorem wd_strs {ws : List Str} (h : Names ws) : Wd (.lst (ws.map .str)) ∧ Wd (.tup (ws.map .str)) := by
  refine wd_of (by rw [List.length_map]; exact Nat.le_trans h.len (by decide)) fun d hd => ?_
  obtain ⟨w, hw, rfl⟩ := List.mem_map.mp hd
  exact decide_eq_true (Nat.le_trans (tx_name (h.ok w hw)).len (by decide))
theorem names_in' {ws : List Str} (h : Names ws) : namesIn (ws.map .str) = true := by
  have e : (ws.map Dat.str).map strOf = ws := by
    rw [List.map_map, show (strOf ∘ Dat.str) = id from rfl, List.map_id]
  unfold namesIn
  rw [e, decide_eq_true h.nd, Bool.and_true, List.all_map, List.all_eq_true]
  exact h.ok
theorem plain_rule {n : Int} {ds cs : List Str} {r : Rl} (h : r.Ok n ds cs) (nd : Names ds) (nc : Names cs) : Pl r.dat ∧ Cm r.dat ∧ ∀ xs, r.dat = .tup xs → ∀ ts, .tup ts ∈ xs → ts.length ≤ 1000 := by
  have td := tx_name (nd.ok _ h.door)
  have tk := kind_tx nc h.kind
  have tw : ∀ w ∈ r.told, Tx w := fun w hw => by
    rcases List.mem_append.mp (h.told1 w hw) with z | z
    · exact tx_name (nc.ok _ z)
    · simp only [List.mem_cons, List.not_mem_nil, or_false] at z
      rcases z with rfl | rfl <;> exact tx_of (by decide +kernel)
  have pu : pureAll (r.told.map Dat.str) = true := by rw [pureAll_all, List.all_map]; exact List.all_eq_true.mpr fun _ _ => rfl
  have wt : Wd (.tup (r.told.map .str)) := (wd_of (by rw [List.length_map]; exact Nat.le_trans h.len (by decide)) fun d hd => by
    obtain ⟨w, hw, rfl⟩ := List.mem_map.mp hd
    exact decide_eq_true (Nat.le_trans (tw w hw).len (by decide))).2
  refine ⟨⟨by simp [Rl.dat, Dat.pure, pureAll, pu], ?_⟩, ⟨by simp [Rl.dat, Dat.pure, pureAll, pu], ?_, ?_⟩, fun xs e ts ht => ?_⟩
  · refine (wd_of (by show 6 ≤ 1000; decide) fun d hd => ?_).2
    simp only [List.mem_cons, List.not_mem_nil, or_false] at hd
    rcases hd with rfl | rfl | rfl | rfl | rfl | rfl
    · exact decide_eq_true (Nat.le_trans td.len (by decide))
    · rfl
    · exact decide_eq_true (Nat.le_trans tk.len (by decide))
    · rfl
    · rfl
    · exact wt
  · have lt : PyData.canLayAll0 (pyAll (r.told.map Dat.str)) = true := by
      have := SeqAt.canLay_of_shaped (lay_strs (ws := r.told) fun w hw => (tw w hw).ok)
      simpa [Dat.py, PyData.canLay0] using this
    show (PyData.strOk r.door && (true && (PyData.strOk r.kind && (true && (true && (PyData.canLayAll0 (pyAll (r.told.map Dat.str)) && true)))))) = true
    rw [td.ok, tk.ok, lt]
    rfl
  · have dp : ∀ xs : List Str, PyData.depthAll (pyAll (xs.map Dat.str)) ≤ 1 := by
      intro xs
      induction xs with
      | nil => simp [pyAll, PyData.depthAll]
      | cons x xs ih =>
        simp only [List.map_cons, pyAll, Dat.py, PyData.depthAll, PyData.depth]
        omega
    have := dp r.told
    simp only [Rl.dat, Dat.py, pyAll, PyData.depth, PyData.depthAll]
    omega
  · have e' : xs = [.str r.door, .int r.state, .str r.kind, .int r.later, .bl r.keeps, .tup (r.told.map .str)] := by
      injection e with e
      exact e.symm
    rw [e'] at ht
    simp at ht
    rw [ht, List.length_map]
    exact h.len
theorem rules_in {n : Int} {ds cs : List Str} {rs : List Rl} (h : ∀ r ∈ rs, r.Ok n ds cs) (nd : (rs.map Rl.key).Nodup) : rulesIn n ds cs (rs.map Rl.dat) = true := by
  have e : (rs.map Rl.dat).map keyOf = rs.map Rl.key := by
    rw [List.map_map]
    rfl
  unfold rulesIn
  rw [e, decide_eq_true nd, Bool.and_true, List.all_map, List.all_eq_true]
  exact fun r hr => (h r hr).is
theorem init_of {P : Program} {w : World} {K : PySem.W.Frag} {mg : Str → Option Value} {base : Heap} {f C W : Addr} {fd : FuncData} (GI : Fn P w K mg base (L2.CX P w) 5 f fd ["self", "states", "doors", "closet", "rules"] (spInitX K C W)) :
    Fn P w K mg base CX0 5 f fd ["self", "states", "doors", "closet", "rules"] (spInit K C) := by
  refine (fn_calmE GI).weak fun vs H Q E h => ?_
  obtain ⟨x, dx, n, v2, v3, v4, ds, cs, rs, Gh, Gf, rfl, hx, s1, s2, nx, h2, h3, h4, n1, n64, nd, nc, dn, ok, ks, hl, k⟩ := h
  obtain ⟨dd, h2, e2⟩ : ∃ dd, Rep K Gf v2 dd ∧ (dd = .lst (ds.map .str) ∨ dd = .tup (ds.map .str)) := by
    rcases h2 with h | h
    · exact ⟨_, h, .inl rfl⟩
    · exact ⟨_, h, .inr rfl⟩
  obtain ⟨cd, h3, e3⟩ : ∃ cd, Rep K Gf v3 cd ∧ (cd = .lst (cs.map .str) ∨ cd = .tup (cs.map .str)) := by
    rcases h3 with h | h
    · exact ⟨_, h, .inl rfl⟩
    · exact ⟨_, h, .inr rfl⟩
  obtain ⟨rd, h4, e4⟩ : ∃ rd, Rep K Gf v4 rd ∧ (rd = .lst (rs.map Rl.dat) ∨ rd = .tup (rs.map Rl.dat)) := by
    rcases h4 with h | h
    · exact ⟨_, h, .inl rfl⟩
    · exact ⟨_, h, .inr rfl⟩
  have es : ∀ ws : List Str, (ws.map Dat.str).map strOf = ws := fun ws => by
    rw [List.map_map, show (strOf ∘ Dat.str) = id from rfl, List.map_id]
  have sd : strsOf dd = ds := by rcases e2 with rfl | rfl <;> exact es ds
  have sc : strsOf cd = cs := by rcases e3 with rfl | rfl <;> exact es cs
  have ad : areNames dd = true := by rcases e2 with rfl | rfl <;> exact names_in' nd
  have ac : areNames cd = true := by rcases e3 with rfl | rfl <;> exact names_in' nc
  have an : noneIn dd = false := by
    have : ds.isEmpty = false := by cases ds with | nil => exact absurd rfl dn | cons a r => rfl
    rcases e2 with rfl | rfl <;> (show (ds.map Dat.str).isEmpty = false) <;> rw [List.isEmpty_map] <;> exact this
  have hh : headBad (.int n) dd cd = none := by
    unfold headBad
    rw [if_neg (by simp [okStates, n1, n64]), if_neg (by rw [ad, an]; decide), if_neg (by rw [ac]; decide)]
  have bad : badArg (.int n) dd cd rd = none := by
    unfold badArg
    rw [hh]
    show (if rulesD n (strsOf dd) (strsOf cd) rd = true then none else some 3) = none
    rw [sd, sc]
    refine if_pos ?_
    rcases e4 with rfl | rfl <;> exact rules_in ok ks
  refine ⟨x, dx, .int n, v2, v3, v4, .int n, dd, cd, rd, Gh, Gf, rfl, hx, s1, s2, nx, rfl, h2, h3, h4, ?_, fun k0 d H' e => ?_, fun n' ds' cs' rs' H' _ en _ _ ed ec _ _ _ er _ _ sH gn => ?_⟩
  · refine ⟨?_, ?_, ?_, ?_, fun _ xs e => ?_⟩
    · rcases e2 with rfl | rfl
      · exact (wd_strs nd).1
      · exact (wd_strs nd).2
    · intro xs e
      have : xs = ds.map .str := by rcases e2 with rfl | rfl <;> rcases e with e | e <;> first | (cases e; done) | (injection e with e; exact e.symm)
      rw [this, List.length_map]
      exact nd.len
    · rcases e3 with rfl | rfl
      · exact (wd_strs nc).1
      · exact (wd_strs nc).2
    · intro xs e
      have : xs = cs.map .str := by rcases e3 with rfl | rfl <;> rcases e with e | e <;> first | (cases e; done) | (injection e with e; exact e.symm)
      rw [this, List.length_map]
      exact nc.len
    · have : xs = rs.map Rl.dat := by rcases e4 with rfl | rfl <;> rcases e with e | e <;> first | (cases e; done) | (injection e with e; exact e.symm)
      rw [this, List.length_map]
      refine ⟨hl, fun d hd => ?_⟩
      obtain ⟨r, hr, rfl⟩ := List.mem_map.mp hd
      have z := plain_rule (ok r hr) nd nc
      exact ⟨z.1, z.2.2⟩
  · rw [bad] at e
    cases e
  · injection en with en
    have er' : rs' = rs := by
      rcases e4 with rfl | rfl <;> rcases er with er | er <;> first | (cases er; done) | (injection er with er; exact (dat_inj er).symm)
    subst er'
    rw [sd] at ed
    rw [sc] at ec
    subst en ed ec
    exact k H' sH gn
section
variable {P : Program} {w : World} {K : PySem.W.Frag} {mg : Str → Option Value} {base : Heap}
abbrev s_law_gate : Stmt := top 25
theorem sc_law_gate : FnScope ["bag", "gate", "rules", "doors", "closet"] ["bag", "gate"] (defScope s_law_gate) := ⟨rfl, rfl, rfl, by decide +kernel, rfl, by decide +kernel, by decide +kernel⟩
theorem ok_law_gate {f C fI : Addr} {fd fdI : FuncData} (F : Fun K "_law_gate" "_law_gate" s_law_gate f fd) (T : Bl mg) (hG : mg "Gate" = some (.ref C))
    (MG : Mk K C fI) (GI : Fn P w K mg base CX0 5 fI fdI ["self", "states", "doors", "closet", "rules"] (spInit K C)) (bI : Binds K fdI ["self", "states", "doors", "closet", "rules"] [])
    (D_law_take : Def P w K mg base 2 "_law_take" ["bag", "many"] spTake) (D_law_mixed : Def P w K mg base 3 "_law_mixed" ["bag", "things"] (spMixed K))
    (D_law_sorted_rules : Def P w K mg base 2 "_law_sorted_rules" ["gate"] (spSortedRules K)) : Fn P w K mg base CX0 7 f fd ["bag", "gate"] (spLawGate K C) := by
  refine fn_calm F sc_law_gate (fun vs H Q E h => ?_) (fun cdv A outer s H vs Q E hc hr h => ?_)
  · obtain ⟨b, g, F, n, ds, cs, rs, rfl, _⟩ := h
    rfl
  · obtain ⟨b, g, F0, n, ds, cs, rs, rfl, fr, lgf, wf, k⟩ := h
    have hu := hu_of hr
    obtain ⟨r, kvs, lg, hR, lr⟩ := lgf.ex
    obtain ⟨d, c, hg, hd, hC⟩ := lg.ex
    refine ⟨_, (pss_cons (ps_set (i := 2) sc_law_gate.nd rfl (Or.inl rfl) (pe_def D_law_mixed hc (hr.mono (by decide)) (pa_cons (pv 0) (pa_cons (pe_def D_law_sorted_rules hc (hr.mono (by decide)) (pa_cons (pv 1) pa_nil)) pa_nil))))
 (pss_cons (ps_par (i := 3) (j := 4) (by rfl) sc_law_gate.nd rfl rfl (by decide) rfl rfl (pa_cons (pe_def D_law_mixed hc (hr.mono (by decide)) (pa_cons (pv 0) (pa_cons (pe_dget hu (pv 1) pe_str (fun _ _ => rfl)) pa_nil))) (pa_cons (pe_def D_law_mixed hc (hr.mono (by decide)) (pa_cons (pv 0) (pa_cons (pe_dget hu (pv 1) pe_str (fun _ _ => rfl)) pa_nil))) pa_nil)) (by rfl))
 (pss_cons (ps_if (pt_cmpR op_eq (pe_def D_law_take hc (hr.mono (by decide)) (pa_cons (pv 0) (pa_cons pe_int pa_nil))) pe_int (nomark _))
  (pss_one (ps_ret (pe_mk MG GI hc (hr.mono (by decide)) rfl hG bI .nil pass0 (pa_cons (pe_dget hu (pv 1) pe_str (fun _ _ => rfl)) (pa_cons (pv 3) (pa_cons (pv 4) (pa_cons (pv 2) pa_nil)))))))
  pss_nil)
 (pss_one (ps_ret (pe_mk MG GI hc (hr.mono (by decide)) rfl hG bI .nil pass0 (pa_cons (pe_dget hu (pv 1) pe_str (fun _ _ => rfl)) (pa_cons (pe_callTy call_tuple_of (by rfl) T.tupleN (by decide +kernel) (pa_cons (pv 3) pa_nil)) (pa_cons (pe_callTy call_tuple_of (by rfl) T.tupleN (by decide +kernel) (pa_cons (pv 4) pa_nil)) (pa_cons (pe_callTy call_tuple_of (by rfl) T.tupleN (by decide +kernel) (pa_cons (pv 2) pa_nil)) pa_nil)))))))))), ?_⟩
    refine ⟨_, rfl, _, rfl, g, r, n, ds, cs, kvs, rs, F0, rfl, fr.same, lg.mono fr.same, fr.same _ _ hR, lr, wf.rl, wf.ks, fun v es F1 H1 sH sF sF' nw rv ee => ?_⟩
    have pe : es.Perm (rs.map Rl.dat) := by rw [ee]; exact List.mergeSort_perm _ _
    have g1 := (Go.refl fr).ext sF sF' sH nw
    obtain ⟨t, xs, rfl, ht, hxs⟩ := rv
    refine ⟨b, t, F1, xs, es, rfl, g1.fr, ht, hxs, ?_, fun v2 es2 F2 H2 g2 rv2 pe2 => ?_⟩
    · rw [pe.length_eq, List.length_map]
      exact Nat.le_trans wf.rl (by decide)
    obtain ⟨rs2, rfl, p2⟩ := perm_map (pe2.trans pe) rs rfl
    have g12 := g1.trans g2
    refine ⟨_, rfl, _, rfl, g, _, rfl, dg (g12.same _ _ (g12.up _ _ hg)) (lg_doors n d c r), b, d, F2, _, ds.map .str, rfl, g12.fr, g12.up _ _ hd, RepAll.of_strs _, by rw [List.length_map]; exact wf.nd.len, fun v3 es3 F3 H3 g3 rv3 pe3 => ?_⟩
    obtain ⟨us, rfl, pus⟩ := perm_map_str pe3
    have g13 := g12.trans g3
    refine ⟨_, rfl, _, rfl, g, _, rfl, dg (g13.same _ _ (g13.up _ _ hg)) (lg_closet n d c r), b, c, F3, _, cs.map .str, rfl, g13.fr, g13.up _ _ hC, RepAll.of_strs _, by rw [List.length_map]; exact wf.nc.len, fun v4 es4 F4 H4 g4 rv4 pe4 => ⟨_, _, rfl, ?_⟩⟩
    obtain ⟨ws, rfl, pws⟩ := perm_map_str pe4
    have g14 := g13.trans g4
    have mk : ∀ (F5 H5 : Hp) (y2 y3 y4 : V), Go b F0 H F5 H5 → SeqOf K F5 y2 (us.map .str) → SeqOf K F5 y3 (ws.map .str) → SeqOf K F5 y4 (rs2.map Rl.dat) → ∀ x dx, H5 x = none → H5 dx = none → dx ≠ x →
        spInit K C [.ref x, .int n, y2, y3, y4] (upd (upd H5 dx (.own x)) x (.ins C dx [])) (fun v H2 => v = .non ∧ Q (.ref x) H2) E0 := by
      intro F5 H5 y2 y3 y4 g5 h2 h3 h4 x dx nx ndx nex
      have s5 : Same H5 (upd (upd H5 dx (.own x)) x (.ins C dx [])) := fun y o e => by
        rw [upd_ne (ne_of_none e nx), upd_ne (ne_of_none e ndx)]
        exact e
      refine ⟨x, dx, n, y2, y3, y4, us, ws, rs2, H5, F5, rfl, upd_same, g5.same, s5, nx, h2, h3, h4, wf.n1, wf.n64, wf.nd.perm pus, wf.nc.perm pws, ?_, ?_, ?_, ?_, fun H' sH' gn => ⟨rfl, ?_⟩⟩
      · intro z
        exact wf.dn (List.length_eq_zero_iff.mp (by rw [← pus.length_eq, z]; rfl))
      · exact fun q hq => (wf.ok q (p2.mem_iff.mp hq)).perm pus pws
      · exact (p2.map Rl.key).nodup_iff.mpr wf.ks
      · rw [p2.length_eq]
        exact Nat.le_trans wf.rl (by decide)
      · obtain ⟨F6, g6, s6, nw6⟩ := g5.all sH'
        obtain ⟨dx', d', c', r', kvs', us', ws', e1, e2, e3, e4, e5, e6, e7, e8, z1, z2, z3, z4, z5⟩ := gn.ex
        exact k x us ws rs2 F6 H' g6 ⟨dx', d', c', r', kvs', us', ws', nw6 _ _ nx e1, nw6 _ _ z1 e2, nw6 _ _ z2 e3, nw6 _ _ z3 e4, e5, e6, e7, RepAll.mono s6 _ e8, z4, z5⟩ pus pws p2
    refine ⟨_, rfl, b, 2, rfl, g14.bag, by decide, by decide, fun k0 H5 _ _ sb5 bt5 => ⟨rfl, _, rfl, ?_⟩⟩
    have g15 := g14.took sb5 bt5
    have r2 : SeqOf K F4 v2 (rs2.map Rl.dat) := .inl (Rep.mono (g3.up.trans g4.up) _ rv2)
    have r3 : SeqOf K F4 v3 (us.map .str) := .inl (Rep.mono g4.up _ rv3)
    have r4 : SeqOf K F4 v4 (ws.map .str) := .inl rv4
    refine ite2 (fun e => ?_) (fun e => ?_)
    · exact ⟨_, rfl, g, _, rfl, dg (g15.same _ _ (g15.up _ _ hg)) (lg_states n d c r), _, rfl, _, rfl, _, rfl, mk F4 H5 v3 v4 v2 g15 r3 r4 r2⟩
    · refine ⟨_, rfl, g, _, rfl, dg (g15.same _ _ (g15.up _ _ hg)) (lg_states n d c r), ?_⟩
      obtain ⟨a3, x3, rfl, h3, q3⟩ := Rep.mono g4.up _ rv3
      obtain ⟨a4, x4, rfl, h4, q4⟩ := rv4
      obtain ⟨a2, x2, rfl, h2, q2⟩ := Rep.mono (g3.up.trans g4.up) _ rv2
      refine ⟨_, rfl, a3, x3, rfl, .inl ⟨SqL.of (g15.same _ _ h3), fun t3 ht3 => ?_⟩⟩
      obtain ⟨F6, g6, s6, at6⟩ := g15.put' (o := .tup x3) ht3
      refine ⟨_, rfl, a4, x4, rfl, .inl ⟨SqL.of (g6.same _ _ (s6 _ _ h4)), fun t4 ht4 => ?_⟩⟩
      obtain ⟨F7, g7, s7, at7⟩ := g6.put' (o := .tup x4) ht4
      refine ⟨_, rfl, a2, x2, rfl, .inl ⟨SqL.of (g7.same _ _ (s7 _ _ (s6 _ _ h2))), fun t2 ht2 => ?_⟩⟩
      obtain ⟨F8, g8, s8, at8⟩ := g7.put' (o := .tup x2) ht2
      exact mk F8 _ _ _ _ g8 (.inr ⟨t3, x3, rfl, (s7.trans s8) _ _ at6, RepAll.mono ((s6.trans s7).trans s8) _ q3⟩) (.inr ⟨t4, x4, rfl, s8 _ _ at7, RepAll.mono ((s6.trans s7).trans s8) _ q4⟩)
        (.inr ⟨t2, x2, rfl, at8, RepAll.mono ((s6.trans s7).trans s8) _ q2⟩)
end
end K

set_option Elab.async false
set_option linter.all false
/-! More rules with the written part named. -/
namespace Kx
open PySem PySem.Spec PyProof.Rows L2 G D L S C Sx
section
variable {X : Cx} {K : PySem.W.Frag}
theorem call_list_ofK (e : X.K = K) : CallR X (.type "list") (fun xs H Q => ∃ p ys, xs = [.ref p] ∧ (SqL K H p ys ∨ SqT K H p ys) ∧ ∀ l, H l = none → Q (.ref l) (upd H l (.lst ys))) := e ▸ call_list_of
theorem sl_listK (e : X.K = K) : SlR X (rSlL K) := e ▸ sl_list
theorem sl_tupK (e : X.K = K) : SlR X (rSlT K) := e ▸ sl_tup
end
end Kx

set_option Elab.async false
set_option linter.all false
set_option maxRecDepth 100000
set_option maxHeartbeats 8000000
namespace K
open PySem PySem.Spec PyProof.Rows L2 G D L S C Sx Kx Ex Lt Qe De Er
open Fz hiding Fr
open C8 (pss_cut tCut)
open PySem.W (dataLt alike AllAlike Sortable)
def spLRule (K : PySem.W.Frag) : Sp := fun vs H Q _ => ∃ (v2 v3 v : V) (n : Int) (ds cs : List Str) (d : Dat), vs = [.int n, v2, v3, v] ∧ SeqOf K H v2 (ds.map .str) ∧ SeqOf K H v3 (cs.map .str) ∧ ds.length ≤ 1000 ∧ cs.length ≤ 1000 ∧ Rep K H v d ∧ Pl d ∧
  ∀ H', Same H H' → Q (.bl (isRuleD n ds cs d)) H'
theorem and_gen {c : Bool} {X A B : Prop} (p : Prop) (hB : ¬ (c = true ∧ p) → B) (hX : c = true → (¬ p → B) → X) : if c = true then X else (if false = true then A else B) := by
  cases c with
  | false => exact iteF (hB fun z => by cases z.1)
  | true => exact iteT (hX rfl fun z => hB fun y => z y.2)
theorem no_words {ts : List Dat} (h : ¬ ts.all Dat.isStr = true) (ws : List Str) : ts.all (oneOf ws) = false := by
  refine Bool.eq_false_iff.mpr fun z => h ?_
  rw [List.all_eq_true] at z ⊢
  intro d hd
  have := z d hd
  cases d <;> first | rfl | cases this
section
variable {P : Program} {w : World} {K : PySem.W.Frag} {mg : Str → Option Value} {base : Heap}
abbrev s_law_is_rule : Stmt := top 27
theorem sc_law_is_rule : FnScope ["states", "doors", "closet", "thing", "door", "state", "kind", "later", "keeps", "some", "one", "word"] ["states", "doors", "closet", "thing"] (defScope s_law_is_rule) := ⟨rfl, rfl, rfl, by decide +kernel, rfl, by decide +kernel, by decide +kernel⟩
theorem ok_law_is_rule {f : Addr} {fd : FuncData} (F : Fun K "_law_is_rule" "_law_is_rule" s_law_is_rule f fd) (T : Bl mg)
    (D_law_is_whole : Def P w K mg base 2 "_law_is_whole" ["thing"] (spB K (fun _ => True) isWhole)) : Fn P w K mg base CX0 3 f fd ["states", "doors", "closet", "thing"] (spLRule K) := by
  refine fn_calm F sc_law_is_rule (fun vs H Q E h => ?_) (fun cdv A outer s H vs Q E hc hr h => ?_)
  · obtain ⟨v2, v3, v, n, ds, cs, d, rfl, _⟩ := h
    rfl
  · obtain ⟨v2, v3, v, n, ds, cs, d, rfl, hD, hC, ld, lc, hv, pl, k⟩ := h
    have hu := hu_of hr
    refine ⟨_, (pss_cons (ps_if (PW.pt (pw_or (pt_not (pt_val (pe_callB call_isi (by rfl) T.isinstanceN (by decide +kernel) (pa_cons (pv 3) (pa_cons (pe_bltn (v := .ty "tuple") (by rfl) T.tupleN (by decide +kernel) rfl) pa_nil))))) (pw_or1 (pt_cmpR op_ne (pe_callB call_len_seq (by rfl) T.lenN (by decide +kernel) (pa_cons (pv 3) pa_nil)) pe_int (nomark _)))))
  (pss_one (ps_ret pe_bl))
  pss_nil)
 (pss_cons (ps_asg (pv 3) (pg_tup (by rfl) (pgs_cons (pg_name (i := 4) sc_law_is_rule.nd rfl (Or.inl rfl)) (pgs_cons (pg_name (i := 5) sc_law_is_rule.nd rfl (Or.inl rfl)) (pgs_cons (pg_name (i := 6) sc_law_is_rule.nd rfl (Or.inr rfl)) (pgs_cons (pg_name (i := 7) sc_law_is_rule.nd rfl (Or.inl rfl)) (pgs_cons (pg_name (i := 8) sc_law_is_rule.nd rfl (Or.inl rfl)) (pgs_cons (pg_name (i := 9) sc_law_is_rule.nd rfl (Or.inl rfl)) pgs_nil))))))))
 (pss_cons (ps_if (PW.pt (pw_or (pt_not (pt_val (pe_callB call_isi (by rfl) T.isinstanceN (by decide +kernel) (pa_cons (pv 4) (pa_cons (pe_bltn (v := .ty "str") (by rfl) T.strN (by decide +kernel) rfl) pa_nil))))) (pw_or (pt_cmpR (op_notInS hu) (pv 4) (pv 1) (by rfl)) (pw_or1 (pt_not (pt_val (pe_callB call_isi (by rfl) T.isinstanceN (by decide +kernel) (pa_cons (pv 6) (pa_cons (pe_bltn (v := .ty "str") (by rfl) T.strN (by decide +kernel) rfl) pa_nil)))))))))
  (pss_one (ps_ret pe_bl))
  pss_nil)
 (pss_cons (ps_if (PW.pt (pw_or (pt_cmpR (op_notInS hu) (pv 6) (pe_op op_cat (pe_lst (pa_cons pe_str (pa_cons pe_str pa_nil))) (pe_callTy call_list_of (by rfl) T.listN (by decide +kernel) (pa_cons (pv 2) pa_nil))) (by rfl)) (pw_or (pt_not (pt_val (pe_callB call_isi (by rfl) T.isinstanceN (by decide +kernel) (pa_cons (pv 8) (pa_cons (pe_bltn (v := .ty "bool") (by rfl) T.boolN (by decide +kernel) rfl) pa_nil))))) (pw_or1 (PW.pt (pw_and (pt_val (pv 8)) (pw_and1 (pt_cmpR op_eq (pv 6) pe_str (nomark _)))))))))
  (pss_one (ps_ret pe_bl))
  pss_nil)
 (pss_cons (ps_if (pt_cmpR (op_ne_lst0 hu) (pe_lc (own := [("one", 10)]) (g := gName 10)  rfl sc_law_is_rule.nd (pi_tup (pe_tup (pa_cons (pv 5) (pa_cons (pv 7) pa_nil)))) (blkOk_by (N := ["states", "doors", "closet", "thing", "door", "state", "kind", "later", "keeps", "some", "one", "word"]) (sc := defScope s_law_is_rule) (by decide +kernel)) (fun _ _ _ _ _ => (pg_name (i := 10) sc_law_is_rule.nd rfl (Or.inl rfl))) (fun _ _ _ _ _ => (pts_one (PW.pt (pw_or (pt_not (pt_val (pe_def D_law_is_whole hc (hr.mono (by decide)) (pa_cons (pv 10) pa_nil)))) (pw_or1 (pt_not (pt_chain op_le op_lt pe_int (pv 10) (pv 0)))))))) (fun _ _ _ _ _ => (pv 10))) (pe_lst pa_nil) (nomark _))
  (pss_one (ps_ret pe_bl))
  pss_nil)
 (pss_cons (ps_if (PW.pt (pw_or (pt_not (pt_val (pe_callB call_isi (by rfl) T.isinstanceN (by decide +kernel) (pa_cons (pv 9) (pa_cons (pe_bltn (v := .ty "tuple") (by rfl) T.tupleN (by decide +kernel) rfl) pa_nil))))) (pw_or1 (pt_cmpR (op_ne_lst0 hu) (pe_lc (own := [("word", 11)]) (g := gName 11)  rfl sc_law_is_rule.nd (pi_tup (pv 9)) (blkOk_by (N := ["states", "doors", "closet", "thing", "door", "state", "kind", "later", "keeps", "some", "one", "word"]) (sc := defScope s_law_is_rule) (by decide +kernel)) (fun _ _ _ _ _ => (pg_name (i := 11) sc_law_is_rule.nd rfl (Or.inl rfl))) (fun _ _ _ _ _ => (pts_one (pt_not (pt_val (pe_callB (call_isiK' (K := K) rfl) (by rfl) T.isinstanceN (by decide +kernel) (pa_cons (pv 11) (pa_cons (pe_bltn (v := .ty "str") (by rfl) T.strN (by decide +kernel) rfl) pa_nil))))))) (fun _ _ _ _ _ => (pv 11))) (pe_lst pa_nil) (nomark _)))))
  (pss_one (ps_ret pe_bl))
  pss_nil)
 (pss_one (ps_ret (pe_cmpR (op_eq_lst0 hu) (pe_lc (own := [("word", 11)]) (g := gName 11)  rfl sc_law_is_rule.nd (pi_tup (pv 9)) (blkOk_by (N := ["states", "doors", "closet", "thing", "door", "state", "kind", "later", "keeps", "some", "one", "word"]) (sc := defScope s_law_is_rule) (by decide +kernel)) (fun _ _ _ _ _ => (pg_name (i := 11) sc_law_is_rule.nd rfl (Or.inl rfl))) (fun _ _ _ _ _ => (pts_one (pt_cmpR (op_notInSK (K := K) rfl hu) (pv 11) (pe_op op_cat (pe_op op_cat (pe_callTy (call_list_ofK (K := K) rfl) (by rfl) T.listN (by decide +kernel) (pa_cons (pv 2) pa_nil)) (pe_lst (pa_cons pe_str pa_nil))) (pe_op op_rep (pe_lst (pa_cons pe_str pa_nil)) (pe_callTy call_int1 (by rfl) T.intN (by decide +kernel) (pa_cons (pe_cmpR op_ne (pv 6) pe_str (nomark _)) pa_nil)))) (by rfl)))) (fun _ _ _ _ _ => (pv 11))) (pe_lst pa_nil) (nomark _)))))))))), ?_⟩
    refine ⟨_, rfl, _, _, _, _, _, rfl, .ty "tuple", hv.ty, kit_tup hv, _, rfl, ?_⟩
    have nay : ∀ H', Same H H' → isRuleD n ds cs d = false → Q (.bl false) H' := fun H' s e => by
      have z := k H' s
      rw [e] at z
      exact z
    cases d with
    | tup xs =>
      refine iteF ?_
      obtain ⟨p, vs, rfl, hp, hxs⟩ := hv
      have lx := hxs.length
      refine ⟨_, rfl, p, _, rfl, .inr (SqT.of hp), rfl, _, rfl, ?_⟩
      have e6 : ∀ b : Bool, b = (!decide (V.int (vs.length : Nat) = V.int 6)) → b = !decide (xs.length = 6) := fun b h => by
        rw [h, lx]
        by_cases q : xs.length = 6
        · simp [q]
        · have : ¬ ((xs.length : Nat) : Int) = 6 := fun z => q (by omega)
          simp [q, this]
      refine ite2 (fun e => ?_) (fun e => ?_)
      · exact nay H (.refl H) (isRule_six (fun q => by
          have := e6 _ rfl
          rw [e, q] at this
          cases this))
      have l6 : xs.length = 6 := Classical.byContradiction fun q => e (by rw [e6 _ rfl, decide_eq_false q]; rfl)
      have all := pl.all
      match xs, l6, hxs with
      | [d1, d2, d3, d4, d5, d6], _, ⟨v1, _, e1, r1, v2', _, e2, r2, v3', _, e3, r3, v4, _, e4, r4, v5, _, e5, r5, v6, _, e7, r6, e8⟩ =>
        subst e1 e2 e3 e4 e5 e7 e8
        have no : ∀ d ∈ [d1, d2, d3, d4, d5, d6], d.noObj = true := fun d hd => (all d hd).no
        refine ⟨_, rfl, p, _, rfl, SqT.of hp, rfl, _, _, rfl, _, _, rfl, _, _, rfl, _, _, rfl, _, _, rfl, _, _, rfl, rfl, ?_⟩
        obtain ⟨p2, xs2, rfl, hp2, rx2⟩ := hD.at1
        obtain rfl := rx2.strs
        obtain ⟨p3, xs3, rfl, hp3, rx3⟩ := hC.at1
        obtain rfl := rx3.strs
        have in2 : SqL K H p2 (ds.map .str) ∨ SqT K H p2 (ds.map .str) := hp2.imp SqL.of SqT.of
        have in3 : ∀ {H'}, Same H H' → SqL K H' p3 (cs.map .str) ∨ SqT K H' p3 (cs.map .str) := fun s => hp3.imp (fun h => SqL.of (s _ _ h)) fun h => SqT.of (s _ _ h)
        -- the door
        refine ⟨_, rfl, _, _, _, _, _, rfl, .ty "str", r1.ty, kit_str r1, _, rfl, ?_⟩
        cases d1 with
        | str a =>
          refine iteF ?_
          refine ⟨_, rfl, _, rfl, p2, ds, .str a, rfl, in2, r1, rfl, _, rfl, ?_⟩
          refine ite2 (fun q1 => ?_) (fun q1 => ?_)
          · refine iteT (nay H (.refl H) ?_)
            have : oneOf ds (.str a) = false := by simpa using q1
            simp [isRuleD, this]
          have k1 : oneOf ds (.str a) = true := by simpa using q1
          refine ⟨_, rfl, _, _, _, _, _, rfl, .ty "str", r3.ty, kit_str r3, _, rfl, ?_⟩
          cases d3 with
          | str b =>
            refine iteF ?_
            refine ⟨_, rfl, by decide, fun p4 hp4 => ?_⟩
            have s4 : Same H _ := same_upd (o := .lst [V.str "", V.str "?"]) hp4
            refine ⟨_, rfl, p3, cs.map .str, rfl, in3 s4, fun p5 hp5 => ?_⟩
            have s5 := s4.trans (same_upd (o := .lst (cs.map .str)) hp5)
            refine ⟨p4, p5, _, _, rfl, rfl, same_upd hp5 _ _ upd_same, upd_same, ?_, fun p6 hp6 => ?_⟩
            · rw [List.length_map]
              exact Nat.le_trans (Nat.add_le_add_left lc 2) (by decide)
            have s6 := s5.trans (same_upd (o := .lst ([V.str "", V.str "?"] ++ cs.map .str)) hp6)
            have e4 : ([V.str "", V.str "?"] ++ cs.map V.str) = ((["", "?"] : List Str) ++ cs).map V.str := by rw [List.map_append]; rfl
            refine ⟨p6, (["", "?"] : List Str) ++ cs, .str b, rfl, .inl (SqL.of (by rw [upd_same, e4])), Rep.mono s6 _ r3, rfl, _, rfl, ?_⟩
            rw [oneOf_perm (show ((["", "?"] : List Str) ++ cs).Perm (cs ++ (["", "?"] : List Str)) from List.perm_append_comm)]
            refine ite2 (fun q4 => ?_) (fun q4 => ?_)
            · refine iteT (nay _ s6 ?_)
              have : oneOf (cs ++ (["", "?"] : List Str)) (.str b) = false := by simpa using q4
              simp [isRuleD, this]
            have k4 : oneOf (cs ++ (["", "?"] : List Str)) (.str b) = true := by simpa using q4
            generalize upd (upd (upd H p4 (.lst [V.str "", V.str "?"])) p5 (.lst (cs.map V.str))) p6 (.lst ([V.str "", V.str "?"] ++ cs.map V.str)) = H4 at s6
            refine ⟨_, rfl, _, _, _, _, _, rfl, .ty "bool", (Rep.mono s6 _ r5).ty, kit_bl (Rep.mono s6 _ r5), _, rfl, ?_⟩
            cases d5 with
            | bl c5 =>
              refine iteF ?_
              obtain rfl : v5 = .bl c5 := r5
              obtain rfl : v3' = .str b := r3
              -- keeps and kind
              refine ⟨_, rfl, _, rfl, ?_⟩
              refine and_gen (c := c5) (b = "") (fun z => ?_) (fun z1 hB => ?_)
              rotate_left
              · refine ⟨_, rfl, rfl, _, rfl, ?_⟩
                refine ite2 (fun e => ?_) (fun e => hB fun z => e (decide_eq_true (by rw [z])))
                refine nay _ s6 ?_
                have z2 : b = "" := by
                  have := of_decide_eq_true e
                  injection this
                subst z1 z2
                cases d6 <;> simp [isRuleD, toldOk, Dat.isThe, kpNo]
              -- the numbers
              refine ⟨_, rfl, _, rfl, (show 2 ≤ sizeLine by decide), fun p7 hp7 => ?_⟩
              have s7 := s6.trans (same_upd (o := .tup [v2', v4]) hp7)
              refine ⟨p7, rfl, ⟨[v2', v4], SqT.of upd_same⟩, fun D hD => lc_sel (walk_tup (xs := [v2', v4])) [(v2', d2), (v4, d4)] (fun q => if isBelow n q.2 = true then none else some q.1) rfl (show 2 < sizeLine by decide) hD (fun H' s => SqT.of (s _ _ upd_same)) ?_ ?_⟩
              · rintro i ⟨v', d'⟩ y H1 H2 Kt Kf hd hs ⟨rfl, hy⟩ kt kf
                have ry : y = v' ∧ Rep K H v' d' := by
                  match i, hd, hy with
                  | 0, hd, hy =>
                    cases hd
                    exact ⟨(Option.some.inj hy).symm, r2⟩
                  | 1, hd, hy =>
                    cases hd
                    exact ⟨(Option.some.inj hy).symm, r4⟩
                obtain ⟨rfl, ry⟩ := ry
                have u := s7.trans hs
                refine ⟨rfl, _, rfl, y, d', rfl, Rep.mono u _ ry, trivial, fun H3 s3 => ⟨_, rfl, ?_⟩⟩
                cases d' with
                | int m =>
                  refine iteF ?_
                  obtain rfl : y = .int m := ry
                  refine ⟨_, rfl, _, _, rfl, rfl, _, rfl, ?_⟩
                  refine ite2 (fun e1 => ?_) (fun e1 => ?_)
                  · refine ⟨_, rfl, _, _, rfl, rfl, _, rfl, ?_⟩
                    have m0 : 0 ≤ m := of_decide_eq_true e1
                    refine ite2 (fun e2 => ?_) (fun e2 => ?_)
                    · have m1 : ¬ m < n := by simpa using e2
                      exact ⟨_, rfl, kt _ _ s3 (by simp [isBelow, m1])⟩
                    · have m1 : m < n := by simpa using e2
                      exact kf _ s3 (by simp [isBelow, m0, m1])
                  · have m0 : ¬ 0 ≤ m := fun z => e1 (decide_eq_true z)
                    refine ⟨_, rfl, ?_⟩
                    exact iteT ⟨_, rfl, kt _ _ s3 (by simp [isBelow, m0])⟩
                | _ => exact iteT ⟨_, rfl, kt _ _ s3 rfl⟩
              · intro H1 hs hd
                refine ⟨Nat.zero_le _, fun p8 hp8 => ?_⟩
                have s8 := (s7.trans hs).trans (same_upd (o := .lst []) hp8)
                refine ⟨D, p8, _, rfl, same_upd hp8 _ _ hd, rfl, upd_same, _, rfl, ?_⟩
                rw [sel_ne (fun q : V × Dat => isBelow n q.2) (fun q => q.1)]
                rw [show ([(v2', d2), (v4, d4)] : List (V × Dat)).all (fun q => isBelow n q.2) = (isBelow n d2 && isBelow n d4) from by simp]
                generalize upd H1 p8 (.lst []) = H5 at s8
                clear hs hd hp8 hp7
                refine ite2 (fun e => ?_) (fun e => ?_)
                · refine nay _ s8 ?_
                  have : isBelow n d2 = false ∨ isBelow n d4 = false := by
                    revert e
                    cases isBelow n d2 <;> cases isBelow n d4 <;> simp
                  rcases this with h | h <;> simp [isRuleD, h]
                have k23 : isBelow n d2 = true ∧ isBelow n d4 = true := by
                  revert e
                  cases isBelow n d2 <;> cases isBelow n d4 <;> simp
                -- the words
                refine ⟨_, rfl, _, _, _, _, _, rfl, .ty "tuple", (Rep.mono s8 _ r6).ty, kit_tup (Rep.mono s8 _ r6), _, rfl, ?_⟩
                cases d6 with
                | tup ts =>
                  refine iteF ?_
                  obtain ⟨q, us, rfl, hq, hus⟩ := r6
                  have wl := wd_tup (all (.tup ts) (by simp)).wd
                  have pts := (all (.tup ts) (by simp)).all
                  have lts : us.length < sizeLine := by
                    rw [hus.length]
                    exact Nat.lt_of_le_of_lt wl.1 (by decide)
                  have good : isRuleD n ds cs (.tup [.str a, d2, .str b, d4, .bl c5, .tup ts]) = toldOk cs (.str b) (.bl c5) (.tup ts) := by
                    simp [isRuleD, k1, k23.1, k23.2, k4, Dat.isBl]
                  rw [good] at k nay
                  refine ⟨_, rfl, q, rfl, ⟨us, SqT.of (s8 _ _ hq)⟩, fun D2 hD2 => lc_sel (walk_tup (xs := us)) (us.zip ts) (fun q => if q.2.isStr = true then none else some q.1) (by rw [List.length_zip, hus.length]; omega) lts hD2 (fun H' s => SqT.of (s _ _ (s8 _ _ hq))) ?_ ?_⟩
                  · rintro i ⟨v', d'⟩ y H6 H7 Kt Kf hd hs ⟨rfl, hy⟩ kt kf
                    obtain ⟨gv, gd⟩ := List.getElem?_zip_eq_some.mp hd
                    obtain rfl : v' = y := Option.some.inj (gv.symm.trans hy)
                    obtain ⟨dy, hdy, ry⟩ := hus.get hy
                    obtain rfl : dy = d' := Option.some.inj (hdy.symm.trans gd)
                    have ry' := Rep.mono (s8.trans hs) _ ry
                    refine ⟨rfl, _, rfl, _, _, _, _, _, rfl, .ty "str", ry'.ty, kit_str ry', _, rfl, ?_⟩
                    refine ite2 (fun e => ?_) (fun e => ?_)
                    · have e' : dy.isStr = false := by simpa using e
                      exact ⟨_, rfl, kt _ _ (.refl _) (by simp [e'])⟩
                    · have e' : dy.isStr = true := by simpa using e
                      exact kf _ (.refl _) (by simp [e'])
                  · intro H6 hs hd
                    refine ⟨Nat.zero_le _, fun p9 hp9 => ?_⟩
                    have s9 := (s8.trans hs).trans (same_upd (o := .lst []) hp9)
                    refine ⟨D2, p9, _, rfl, same_upd hp9 _ _ hd, rfl, upd_same, _, rfl, ?_⟩
                    rw [sel_ne (fun q : V × Dat => q.2.isStr) (fun q => q.1)]
                    have ez : (us.zip ts).all (fun q => q.2.isStr) = ts.all Dat.isStr := by
                      have : (us.zip ts).map (·.2) = ts := List.map_snd_zip (by rw [hus.length]; exact Nat.le_refl _)
                      conv => rhs; rw [← this]
                      rw [List.all_map]
                      rfl
                    rw [ez]
                    generalize upd H6 p9 (.lst []) = H8 at s9
                    clear hs hd hp9
                    refine ite2 (fun e => ?_) (fun e => ?_)
                    · refine nay _ s9 ?_
                      have e' : ¬ ts.all Dat.isStr = true := by simpa using e
                      unfold toldOk
                      dsimp only
                      rw [no_words e' _, no_words e' _, Bool.and_false, ite_self]
                    · obtain ⟨kk, tl, ek, e01, efl, etl⟩ : ∃ (kk : Int) (tl : List Str), V.int (if (!decide (V.str b = V.str "")) = true then 1 else 0) = V.int kk ∧ (kk = 0 ∨ kk = 1) ∧ (List.replicate kk.toNat [V.str "+given"]).flatten = tl.map V.str ∧
                          ((b = "" ∧ tl = []) ∨ (b ≠ "" ∧ tl = (["+given"] : List Str))) := by
                        by_cases eb : b = ""
                        · exact ⟨0, [], by rw [eb]; rfl, .inl rfl, rfl, .inl ⟨eb, rfl⟩⟩
                        · refine ⟨1, ["+given"], ?_, .inr rfl, rfl, .inr ⟨eb, rfl⟩⟩
                          rw [show decide (V.str b = V.str "") = false from decide_eq_false fun z => eb (by injection z)]
                          rfl
                      have ans : toldOk cs (.str b) (.bl c5) (.tup ts) = ts.all (oneOf (cs ++ (["+kept"] : List Str) ++ tl)) := by
                        rcases etl with ⟨eb, rfl⟩ | ⟨eb, rfl⟩
                        · have c0 : c5 = false := by
                            cases c5 with
                            | false => rfl
                            | true => exact absurd ⟨rfl, eb⟩ z
                          rw [List.append_nil]
                          simp [toldOk, Dat.isThe, eb, kpNo, c0]
                        · simp [toldOk, Dat.isThe, eb, List.append_assoc]
                      rw [ans] at k
                      refine ⟨_, rfl, q, rfl, ⟨us, SqT.of (s9 _ _ hq)⟩, fun D3 hD3 => lc_sel (walk_tup (xs := us)) (us.zip ts) (fun q => if oneOf (cs ++ (["+kept"] : List Str) ++ tl) q.2 = true then none else some q.1) (by rw [List.length_zip, hus.length]; omega) lts hD3 (fun H' s => SqT.of (s _ _ (s9 _ _ hq))) ?_ ?_⟩
                      · rintro i ⟨v', d'⟩ y H6 H7 Kt Kf hd hs ⟨rfl, hy⟩ kt kf
                        obtain ⟨gv, gd⟩ := List.getElem?_zip_eq_some.mp hd
                        obtain rfl : v' = y := Option.some.inj (gv.symm.trans hy)
                        obtain ⟨dy, hdy, ry⟩ := hus.get hy
                        obtain rfl : dy = d' := Option.some.inj (hdy.symm.trans gd)
                        have u0 := s9.trans hs
                        refine ⟨rfl, _, rfl, _, rfl, p3, cs.map .str, rfl, in3 u0, fun l1 hl1 => ?_⟩
                        have w1 := same_upd (o := .lst (cs.map .str)) hl1
                        refine ⟨by decide, fun l2 hl2 => ?_⟩
                        have w2 := same_upd (o := .lst [V.str "+kept"]) hl2
                        refine ⟨l1, l2, _, _, rfl, rfl, w2 _ _ upd_same, upd_same, ?_, fun l3 hl3 => ?_⟩
                        · rw [List.length_map]
                          exact Nat.le_trans (Nat.add_le_add_right lc 1) (by decide)
                        have w3 := same_upd (o := .lst (cs.map .str ++ [V.str "+kept"])) hl3
                        refine ⟨by decide, fun l4 hl4 => ?_⟩
                        have w4 := same_upd (o := .lst [V.str "+given"]) hl4
                        refine ⟨_, rfl, rfl, .inr ⟨_, rfl, ?_⟩⟩
                        refine ⟨l4, kk, _, rfl, ek, upd_same, by omega, by omega, ?_, fun l5 hl5 => ?_⟩
                        · rcases e01 with rfl | rfl <;> decide
                        have w5 := same_upd (o := .lst (List.replicate kk.toNat [V.str "+given"]).flatten) hl5
                        refine ⟨l3, l5, _, _, rfl, rfl, w5 _ _ (w4 _ _ upd_same), upd_same, ?_, fun l6 hl6 => ?_⟩
                        · have : tl.length ≤ 1 := by rcases etl with ⟨_, rfl⟩ | ⟨_, rfl⟩ <;> decide
                          rw [efl, List.length_append, List.length_map, List.length_map]
                          exact Nat.le_trans (Nat.add_le_add (Nat.add_le_add_right lc 1) this) (by decide)
                        have w6 := same_upd (o := .lst ((cs.map .str ++ [V.str "+kept"]) ++ (List.replicate kk.toNat [V.str "+given"]).flatten)) hl6
                        have ww := ((((w1.trans w2).trans w3).trans w4).trans w5).trans w6
                        have eW : (cs.map V.str ++ [V.str "+kept"]) ++ (List.replicate kk.toNat [V.str "+given"]).flatten = (cs ++ (["+kept"] : List Str) ++ tl).map V.str := by
                          rw [efl, List.map_append, List.map_append]
                          rfl
                        refine ⟨l6, _, dy, rfl, .inl (SqL.of (by rw [upd_same, eW])), Rep.mono (u0.trans ww) _ ry, (pts dy (List.mem_of_getElem? gd)).no, _, rfl, ?_⟩
                        refine ite2 (fun e => ?_) (fun e => ?_)
                        · have e' : oneOf (cs ++ (["+kept"] : List Str) ++ tl) dy = false := by simpa using e
                          exact ⟨_, rfl, kt _ _ ww (by simp only [e']; rfl)⟩
                        · have e' : oneOf (cs ++ (["+kept"] : List Str) ++ tl) dy = true := by simpa using e
                          exact kf _ ww (by simp only [e']; rfl)
                      · intro H6 hs hd
                        refine ⟨Nat.zero_le _, fun p9 hp9 => ?_⟩
                        have sA := (s9.trans hs).trans (same_upd (o := .lst []) hp9)
                        refine ⟨D3, p9, _, rfl, same_upd hp9 _ _ hd, rfl, upd_same, ?_⟩
                        rw [sel_empty (fun q : V × Dat => oneOf (cs ++ (["+kept"] : List Str) ++ tl) q.2) (fun q => q.1)]
                        have ez : (us.zip ts).all (fun q => oneOf (cs ++ (["+kept"] : List Str) ++ tl) q.2) = ts.all (oneOf (cs ++ (["+kept"] : List Str) ++ tl)) := by
                          have : (us.zip ts).map (·.2) = ts := List.map_snd_zip (by rw [hus.length]; exact Nat.le_refl _)
                          conv => rhs; rw [← this]
                          rw [List.all_map]
                          rfl
                        rw [ez]
                        exact k _ sA
                | _ => exact iteT (nay _ s8 (by simp [isRuleD, toldOk]))
            | _ => exact iteT (nay _ s6 (by simp [isRuleD, Dat.isBl]))
          | _ => exact iteT (nay H (.refl H) (by simp [isRuleD, oneOf]))
        | _ => exact iteT (nay H (.refl H) (by simp [isRuleD, oneOf]))
    | _ => exact iteT (nay H (.refl H) rfl)
end
end K

set_option Elab.async false
set_option linter.all false
set_option maxRecDepth 100000
set_option maxHeartbeats 4000000
/-! dict(..) of a list of pairs whose keys are tuples. -/
namespace De
open PySem PySem.Spec PyProof.Rows L2 G D L
def mergeT (kvs more : List (List Key × V)) : List (List Key × V) := more.foldl (fun acc kv => putK acc kv.1 kv.2) kvs
/-- the pair that stands at t: its key a tuple -/
def PairT (K : PySem.W.Frag) (H : Hp) (t : Addr) (kv : List Key × V) : Prop := ∃ b, SqT K H t [.ref b, kv.2] ∧ H b = some (.tup (kv.1.map kV))
def rDictPT (K : PySem.W.Frag) : List V → Hp → VK → Prop := fun xs H Q => ∃ (a : Addr) (ts : List Addr) (kvs : List (List Key × V)), xs = [.ref a] ∧ SqL K H a (ts.map V.ref) ∧ Paired (PairT K H) ts kvs ∧
  ∀ p, H p = none → Q (.ref p) (upd H p (.dT (mergeT [] kvs)))
theorem putK_len {κ : Type} [DecidableEq κ] (kvs : List (κ × V)) (k : κ) (v : V) : (putK kvs k v).length ≤ kvs.length + 1 := by
  unfold putK
  split <;> simp
theorem mergeT_len : ∀ (more kvs : List (List Key × V)), (mergeT kvs more).length ≤ kvs.length + more.length
  | [], _ => Nat.le_refl _
  | m :: more, kvs => by
    have h1 := mergeT_len more (putK kvs m.1 m.2)
    have h2 := putK_len kvs m.1 m.2
    show (mergeT (putK kvs m.1 m.2) more).length ≤ _
    rw [List.length_cons]
    omega
theorem kt_merge {H : Hp} {more : List (List Key × V)} {rs : List (List Key × Addr × Value)} (r : KT H more rs) : ∀ {kvs : List (List Key × V)} {xs : List (List Key × Addr × Value)}, KT H kvs xs → KT H (mergeT kvs more) (PySem.storedAllH xs rs) := by
  induction r with
  | nil => exact fun q => q
  | @cons p q ps qs h t ih =>
    intro kvs xs z
    have e : KT H (putK kvs p.1 p.2) (PySem.storedH xs q.1 q.2.1 q.2.2) := by
      rw [h.1]
      exact z.put q.1 (by rw [← h.1]; exact h.2.1) h.2.2
    exact ih e
section
variable {X : Cx}
theorem pairsT_of {pins : List (Addr × Obj)} {σ : L2.St} {H : Hp} {s : Shared} (I : Inv X pins σ H s) : ∀ {ts : List Addr} {kvs : List (List Key × V)}, Paired (PairT X.K H) ts kvs →
    ∃ rs : List (List Key × Addr × Value), KT H kvs rs ∧ rs.length = ts.length ∧ ∀ (j : Nat) (q : List Key × Addr × Value), rs[j]? = some q → ∃ t : Addr, ts[j]? = some t ∧ s.heap.IsTuple t #[.ref q.2.1, q.2.2]
  | _, _, .nil => ⟨[], .nil, rfl, fun j q e => by simp at e⟩
  | _, _, .cons (a := t) (b := kv) h r => by
    obtain ⟨rs, rel, hl, hp⟩ := pairsT_of I r
    obtain ⟨b, h1, h2⟩ := h
    obtain ⟨its, rv, ht, _⟩ := I.tuple h1
    obtain ⟨u, y, ei, ru, ry⟩ := vals2 rv
    subst ei
    cases (show u = Value.ref b from ru)
    refine ⟨(kv.1, b, y) :: rs, .cons ⟨rfl, h2, ry⟩ rel, by rw [List.length_cons, List.length_cons, hl], fun j q e => ?_⟩
    cases j with
    | zero =>
      have e' : (kv.1, b, y) = q := Option.some.inj e
      subst e'
      exact ⟨t, rfl, ht⟩
    | succ j =>
      obtain ⟨t', e1, e2⟩ := hp j q (by simpa using e)
      exact ⟨t', by simpa using e1, e2⟩
theorem call_dictPT (hcalm : X.calm = true) (hu : X.A.units + 64 < cLine) : CallR X (.type "dict") (rDictPT X.K) := by
  intro pins s σ H xs us Q I r q
  obtain ⟨a, ts, kvs, rfl, hq, hp, q⟩ := q
  obtain ⟨u, rfl, rx⟩ := vals1 r
  cases (show u = Value.ref a from rx)
  obtain ⟨its, rv, pl, hz⟩ := I.list hq
  have ei := refs_at rv
  subst ei
  rw [List.length_map] at hz
  obtain ⟨rs, rel, hl, hpr⟩ := pairsT_of I hp
  obtain ⟨o, n, ho, hc, hd, hdat⟩ := pl
  have hat : ∀ {l : List (List Key × V)} {m : List (List Key × Addr × Value)}, KT H l m → ∀ x ∈ m, H x.2.1 = some (.tup (x.1.map kV)) := by
    intro l m q
    induction q with
    | nil => intro x hx; exact nomatch hx
    | @cons p q ps qs hq t ih =>
      intro x hx
      rcases List.mem_cons.mp hx with e | hx
      · subst e
        rw [← hq.1]
        exact hq.2.1
      · exact ih x hx
  have P := PySem.PairArg.list (prog := X.prog) (w := X.w) a (ts.map Value.ref).toArray (fun j => ts.getD j 0) (rs.map fun x => (Value.ref x.2.1, x.2.2))
  refine PySem.call_dict_pairsH (knd := tupleKind (mixKind X.prog X.w)) (ps := rs) P (I.ok.hd hcalm) ?_ ⟨⟨o, n, ho, hc, hd, hdat⟩, ?_, ?_⟩ ⟨by rw [List.length_map], ?_⟩ ?_ ?_ ?_
  · exact (show X.A.in1.in1.units < cLine by show X.A.units + 1 + 1 < cLine; omega)
  · rw [List.size_toArray, List.length_map, List.length_map, hl]
  · intro j k v e
    rw [List.getElem?_map] at e
    cases ej : rs[j]? with
    | none => rw [ej] at e; cases e
    | some x =>
      rw [ej] at e
      injection e with e
      injection e with e1 e2
      obtain ⟨t, h1, h2⟩ := hpr j x ej
      have et : ts.getD j 0 = t := by rw [List.getD_eq_getElem?_getD, h1]; rfl
      refine ⟨by simp [h1, et], ?_⟩
      show PySem.PairAt s.heap (ts.getD j 0) k v
      rw [et, ← e1, ← e2]
      exact .inl h2
  · intro i key v e
    have e : (rs.map fun x => (Value.ref x.2.1, x.2.2))[i]? = some (key, v) := e
    rw [List.getElem?_map] at e
    cases ej : rs[i]? with
    | none => rw [ej] at e; cases e
    | some x =>
      rw [ej] at e
      injection e with e
      injection e with e1 e2
      exact ⟨x.1, x.2.1, by rw [← e2], e1.symm⟩
  · intro h' hk x hx
    have hb := hat rel x hx
    obtain ⟨_, its', r', o', h1, h2, n', h3⟩ := (show ObjOk X.prog X.w H s.heap x.2.1 (.tup (x.1.map kV)) from I.hok _ _ hb)
    exact ⟨o', its'.toArray, n', hk _ _ (Nat.ne_of_lt (Heap.lt_size h1)) (fun z => nomatch z) h1, h2, h3, by simpa using items_are r'⟩
  · rw [List.length_map, hl]
    exact hz
  · intro h' tk hd' k
    have hm : (s.heap.objs.size == sysModules) = false := beq_eq_false_iff_ne.mpr (Nat.ne_of_gt I.big)
    have hf : H s.heap.objs.size = none := I.hok.fresh (Nat.le_refl _)
    have hlen : (mergeT [] kvs).length ≤ sizeLine := by
      refine Nat.le_trans (mergeT_len kvs []) ?_
      rw [List.length_nil, Nat.zero_add, rel.length, hl]
      exact hz
    have kt : KT H (mergeT [] kvs) (PySem.storedAllH [] rs) := kt_merge rel .nil
    obtain ⟨o2, es, ep, g1, g2, g3, g4, g5, g6⟩ := hd'
    refine ⟨.ref s.heap.objs.size, upd H s.heap.objs.size (.dT (mergeT [] kvs)), I.laid (t' := tk) (fun b o e => k b o (fun z => nomatch z) e) (Nat.le_refl _) ?_, rfl, q _ hf⟩
    have up : ∀ b ys, H b = some (.tup ys) → upd H s.heap.objs.size (.dT (mergeT [] kvs)) b = some (.tup ys) := fun b ys e => by
      rw [upd_ne (ne_of_none e hf)]
      exact e
    exact ⟨hlen, hm, PySem.storedAllH [] rs, kt.keeps up, o2, es, ep, g1, g2, g3, g4, g6⟩
end
end De

set_option Elab.async false
set_option linter.all false
set_option maxRecDepth 100000
set_option maxHeartbeats 8000000
namespace K
open PySem PySem.Spec PyProof.Rows L2 G D L S C Sx Kx Ex Lt Qe De Er
open Fz hiding Fr
open C8 (pss_cut tCut)
open PySem.W (dataLt alike AllAlike Sortable)
/-- a row of pairs of a tuple key and a datum -/
theorem pairs_rep {K : PySem.W.Frag} {F : Hp} : ∀ {kds : List (List Key × Dat)} {ys : List V}, RepAll K F ys (kds.map fun p => .tup [keyDat p.1, p.2]) →
    ∃ (ts : List Addr) (kvs : List (List Key × V)), ys = ts.map V.ref ∧ Paired (PairT K F) ts kvs ∧ kvs.map (·.1) = kds.map (·.1) ∧ RepAll K F (kvs.map (·.2)) (kds.map (·.2))
  | [], ys, h => ⟨[], [], h, .nil, rfl, rfl⟩
  | p :: kds, ys, ⟨v, r, e, h1, h2⟩ => by
    obtain ⟨ts, kvs, e1, pr, e2, rr⟩ := pairs_rep h2
    obtain ⟨t, xs, rfl, ht, u1, l1, ex, hk, u2, l2, ex2, hv, hn⟩ := h1
    obtain ⟨b, rfl, hb⟩ := key_rep hk
    subst ex ex2
    obtain rfl : l2 = [] := hn
    exact ⟨t :: ts, (p.1, u2) :: kvs, by rw [e, e1]; rfl, .cons ⟨b, SqT.of ht, hb⟩ pr, by rw [List.map_cons, List.map_cons, e2], ⟨u2, _, rfl, hv, rr⟩⟩
theorem PairT.mono {K : PySem.W.Frag} {F H : Hp} (s : Same F H) {ts : List Addr} {kvs : List (List Key × V)} (h : Paired (PairT K F) ts kvs) : Paired (PairT K H) ts kvs := by
  induction h with
  | nil => exact .nil
  | cons a _ ih =>
    obtain ⟨b, h1, h2⟩ := a
    exact .cons ⟨b, h1.imp (fun r => r.imp (fun e => s _ _ e) fun ⟨o, e⟩ => ⟨o, s _ _ e⟩) id, s _ _ h2⟩ ih
theorem putK_new {κ : Type} [DecidableEq κ] {kvs : List (κ × V)} {k : κ} (v : V) (h : k ∉ kvs.map (·.1)) : putK kvs k v = kvs ++ [(k, v)] := by
  unfold putK
  rw [if_neg]
  intro z
  rw [List.any_eq_true] at z
  obtain ⟨p, hp, e⟩ := z
  exact h (List.mem_map.mpr ⟨p, hp, of_decide_eq_true e⟩)
theorem putK_old {κ : Type} [DecidableEq κ] {kvs : List (κ × V)} {k : κ} (v : V) (h : k ∈ kvs.map (·.1)) : (putK kvs k v).map (·.1) = kvs.map (·.1) := by
  unfold putK
  rw [if_pos]
  · rw [List.map_map]
    refine List.map_congr_left fun p _ => ?_
    show (if p.1 = k then (p.1, v) else p).1 = p.1
    split <;> rfl
  · obtain ⟨p, hp, e⟩ := List.mem_map.mp h
    exact List.any_eq_true.mpr ⟨p, hp, decide_eq_true e⟩
theorem mergeT_nodup : ∀ (more kvs : List (List Key × V)), (kvs.map (·.1)).Nodup → ((mergeT kvs more).length = kvs.length + more.length ↔ ((kvs ++ more).map (·.1)).Nodup)
  | [], kvs, h => by simp [mergeT, h]
  | m :: more, kvs, h => by
    show (mergeT (putK kvs m.1 m.2) more).length = _ ↔ _
    by_cases hm : m.1 ∈ kvs.map (·.1)
    · have e := putK_old m.2 hm
      have l := congrArg List.length e
      rw [List.length_map, List.length_map] at l
      have := mergeT_len more (putK kvs m.1 m.2)
      refine ⟨fun z => ?_, fun z => ?_⟩
      · rw [List.length_cons] at z
        omega
      · rw [List.map_append, List.map_cons] at z
        exact absurd rfl ((List.nodup_append.mp z).2.2 m.1 hm m.1 List.mem_cons_self)
    · rw [putK_new m.2 hm]
      have nd : ((kvs ++ [(m.1, m.2)]).map (·.1)).Nodup := by
        rw [List.map_append]
        refine List.nodup_append.mpr ⟨h, by simp, fun a ha b hb => ?_⟩
        simp at hb
        subst hb
        exact fun z => hm (z ▸ ha)
      have ih := mergeT_nodup more (kvs ++ [(m.1, m.2)]) nd
      rw [List.length_append, List.append_assoc] at ih
      rw [List.length_cons, show kvs.length + (more.length + 1) = kvs.length + [(m.1, m.2)].length + more.length by simp; omega]
      exact ih
theorem put_F {F H : Hp} {t : Addr} {o : HO} (sF : Same F H) (ht : H t = none) : Same F (upd F t o) ∧ Same (upd F t o) (upd H t o) ∧ ∀ y o', upd F t o y = some o' → F y = some o' ∨ H y = none := by
  refine ⟨same_upd (sF.free ht), fun y o' e => ?_, fun y o' e => ?_⟩
  · by_cases z : y = t
    · rw [z, upd_same] at e ⊢
      exact e
    · rw [upd_ne z] at e ⊢
      exact sF _ _ e
  · by_cases z : y = t
    · rw [z]
      exact .inr ht
    · rw [upd_ne z] at e
      exact .inl e
theorem all_rules {n : Int} {ds cs : List Str} : ∀ {rds : List Dat}, rds.all (isRuleD n ds cs) = true → (∀ d ∈ rds, ∀ xs, d = .tup xs → ∀ ts, .tup ts ∈ xs → ts.length ≤ 1000) → ∃ rs : List Rl, rds = rs.map Rl.dat ∧ ∀ r ∈ rs, r.Ok n ds cs
  | [], _, _ => ⟨[], rfl, fun _ h => (nomatch h)⟩
  | d :: rds, h, hl => by
    rw [List.all_cons, Bool.and_eq_true] at h
    obtain ⟨r, e, ok⟩ := ruleD_rl h.1 (hl d List.mem_cons_self)
    obtain ⟨rs, e2, ok2⟩ := all_rules h.2 fun x hx => hl x (List.mem_cons_of_mem _ hx)
    refine ⟨r :: rs, by rw [e, e2]; rfl, fun q hq => ?_⟩
    rcases List.mem_cons.mp hq with rfl | hq
    · exact ok
    · exact ok2 q hq
/-- the answer of the law's own look -/
def badV : Option Int → V
  | none => .non
  | some k => .int k
def spDue (K : PySem.W.Frag) : Sp := fun vs H Q _ => ∃ (v1 v2 v3 v4 : V) (st dd cd rd : Dat), vs = [v1, v2, v3, v4] ∧ Rep K H v1 st ∧ Rep K H v2 dd ∧ Rep K H v3 cd ∧ Rep K H v4 rd ∧ ArgOk st dd cd rd ∧ ∀ H', Same H H' → Q (badV (badArg st dd cd rd)) H'
section
variable {P : Program} {w : World} {K : PySem.W.Frag} {mg : Str → Option Value} {base : Heap}
abbrev s_law_due : Stmt := top 28
theorem sc_law_due : FnScope ["states", "doors", "closet", "rules", "one"] ["states", "doors", "closet", "rules"] (defScope s_law_due) := ⟨rfl, rfl, rfl, by decide +kernel, rfl, by decide +kernel, by decide +kernel⟩
theorem ok_law_due {f : Addr} {fd : FuncData} (F : Fun K "_law_due" "_law_due" s_law_due f fd) (T : Bl mg)
    (D_law_is_whole : Def P w K mg base 2 "_law_is_whole" ["thing"] (spB K (fun _ => True) isWhole))
    (D_law_are_names : Def P w K mg base 3 "_law_are_names" ["thing"] (spB K Wd areNames))
    (D_law_is_rule : Def P w K mg base 3 "_law_is_rule" ["states", "doors", "closet", "thing"] (spLRule K)) : Fn P w K mg base CX0 4 f fd ["states", "doors", "closet", "rules"] (spDue K) := by
  refine fn_calm F sc_law_due (fun vs H Q E h => ?_) (fun cdv A outer s H vs Q E hc hr h => ?_)
  · obtain ⟨v1, v2, v3, v4, st, dd, cd, rd, rfl, _⟩ := h
    rfl
  · obtain ⟨v1, v2, v3, v4, st, dd, cd, rd, rfl, h1, h2, h3, h4, ok, k⟩ := h
    have hu := hu_of hr
    have hu64 := hr.units
    have say : ∀ (j : Int) (H' : Hp), Same H H' → badArg st dd cd rd = some j → Q (.int j) H' := fun j H' s e => by
      have z := k H' s
      rw [e] at z
      exact z
    cases eq4 : rd.isSeq with
    | false =>
      refine ⟨_, (pss_cons (ps_if (PW.pt (pw_or (pt_not (pt_val (pe_def D_law_is_whole hc (hr.mono (by decide)) (pa_cons (pv 0) pa_nil)))) (pw_or1 (pt_not (pt_chain op_le op_le pe_int (pv 0) pe_int)))))
  (pss_one (ps_ret pe_int))
  pss_nil)
 (pss_cons (ps_if (PW.pt (pw_or (pt_not (pt_val (pe_def D_law_are_names hc (hr.mono (by decide)) (pa_cons (pv 1) pa_nil)))) (pw_or1 (pt_cmpR op_eq (pe_callB call_len (by rfl) T.lenN (by decide +kernel) (pa_cons (pv 1) pa_nil)) pe_int (nomark _)))))
  (pss_one (ps_ret pe_int))
  pss_nil)
 (pss_cons (ps_if (pt_not (pt_val (pe_def D_law_are_names hc (hr.mono (by decide)) (pa_cons (pv 2) pa_nil))))
  (pss_one (ps_ret pe_int))
  pss_nil)
 (pss_cons (ps_if (pt_not (pt_val (pe_callB call_isiT (by rfl) T.isinstanceN (by decide +kernel) (pa_cons (pv 3) (pa_cons (pe_tup (pa_cons (pe_bltn (v := .ty "list") (by rfl) T.listN (by decide +kernel) rfl) (pa_cons (pe_bltn (v := .ty "tuple") (by rfl) T.tupleN (by decide +kernel) rfl) pa_nil))) pa_nil)))))
  (pss_one (ps_ret pe_int))
  pss_nil)
 (pss_cons (ps_if (pt_cmpR (op_ne_lst0 hu) (pe_lc (own := [("one", 4)]) (g := gName 4)  rfl sc_law_due.nd (pi_list (pv 3)) (blkOk_by (N := ["states", "doors", "closet", "rules", "one"]) (sc := defScope s_law_due) (by decide +kernel)) (fun _ _ _ _ _ => (pg_name (i := 4) sc_law_due.nd rfl (Or.inl rfl))) (fun _ _ _ _ _ => (pts_one (pt_not (pt_val (pe_def D_law_is_rule hc (hr.mono (by decide)) (pa_cons (pv 0) (pa_cons (pv 1) (pa_cons (pv 2) (pa_cons (pv 4) pa_nil))))))))) (fun _ _ _ _ _ => (pv 4))) (pe_lst pa_nil) (nomark _))
  (pss_one (ps_ret pe_int))
  pss_nil)
 (pss_one (ps_ret (pe_ifExp (pt_cmpR op_eq (pe_callB call_len_dT (by rfl) T.lenN (by decide +kernel) (pa_cons (pe_callTy (call_dictPT rfl hu64) (by rfl) T.dictN (by decide +kernel) (pa_cons (pe_lc (own := [("one", 4)]) (g := gName 4) (tt := tYes) rfl sc_law_due.nd (pi_list (pv 3)) (blkOk_by (N := ["states", "doors", "closet", "rules", "one"]) (sc := defScope s_law_due) (by decide +kernel)) (fun _ _ _ _ _ => (pg_name (i := 4) sc_law_due.nd rfl (Or.inl rfl))) (fun _ _ _ _ _ => pts_nil) (fun _ _ _ _ _ => (pe_tup (pa_cons (pe_slice (sl_tupK (K := K) rfl) (pv 4) po_none (po_some pe_int)) (pa_cons pe_bl pa_nil))))) pa_nil)) pa_nil)) (pe_callB call_len_seq (by rfl) T.lenN (by decide +kernel) (pa_cons (pv 3) pa_nil)) (nomark _)) pe_non pe_int)))))))), ?_⟩
      -- states
      refine ⟨_, rfl, v1, st, rfl, h1, trivial, fun H1 s1 => ⟨_, rfl, ?_⟩⟩
      have bad0 : okStates st = false → badArg st dd cd rd = some 0 := fun e => by
        unfold badArg headBad
        rw [if_pos e]
      cases ew : isWhole st with
      | false => exact iteT (say 0 H1 s1 (bad0 (by cases st <;> first | rfl | cases ew)))
      | true =>
      obtain ⟨n, rfl⟩ : ∃ n, st = .int n := by
        cases st with
        | int n => exact ⟨n, rfl⟩
        | _ => cases ew
      obtain rfl : v1 = .int n := h1
      refine iteF ?_
      refine ⟨_, rfl, _, _, rfl, rfl, _, rfl, ?_⟩
      refine ite2 (fun e1 => ?_) (fun e1 => ?_)
      rotate_left
      · have n1 : ¬ 1 ≤ n := by simpa using e1
        exact ⟨_, rfl, iteT (say 0 H1 s1 (bad0 (by simp [okStates, n1])))⟩
      have n1 : 1 ≤ n := by simpa using e1
      refine ⟨_, _, rfl, rfl, _, rfl, ?_⟩
      by_cases n64 : n ≤ 64
      rotate_left
      · rw [decide_eq_false n64]
        exact iteT (say 0 H1 s1 (bad0 (by simp [okStates, n64])))
      rw [decide_eq_true n64]
      refine iteF ?_
      have es : okStates (.int n) = true := by simp [okStates, n1, n64]
      -- doors
      refine ⟨_, rfl, v2, dd, rfl, Rep.mono s1 _ h2, ok.wd, fun H2 s2 => ⟨_, rfl, ?_⟩⟩
      have s12 := s1.trans s2
      have bad1 : (areNames dd && !noneIn dd) = false → badArg (.int n) dd cd rd = some 1 := fun e => by
        unfold badArg headBad
        rw [if_neg (by rw [es]; decide), if_pos e]
      cases ed : areNames dd with
      | false => exact iteT (say 1 H2 s12 (bad1 (by rw [ed]; rfl)))
      | true =>
      refine iteF ?_
      obtain ⟨ds, eds, ndd, dok, sds⟩ := names_of ed
      have ldd : ds.length ≤ 1000 := by
        rcases eds with e | e
        · have := ok.ld _ (.inl e)
          rwa [List.length_map] at this
        · have := ok.ld _ (.inr e)
          rwa [List.length_map] at this
      have hd : SeqOf K H v2 (ds.map .str) := by
        rcases eds with e | e
        · exact .inl (by rw [e] at h2; exact h2)
        · exact .inr (by rw [e] at h2; exact h2)
      have en : noneIn dd = ds.isEmpty := by
        rcases eds with e | e <;> rw [e] <;> cases ds <;> rfl
      obtain ⟨p2, xs2, rfl, hp2, rx2⟩ := hd.at1
      have l2 : xs2.length = ds.length := by rw [rx2.length, List.length_map]
      have len2 : LenV K (.ref p2) H2 xs2.length := by
        rcases hp2 with h | h
        · exact .inl ⟨xs2, SqL.of (s12 _ _ h), rfl⟩
        · exact .inr ⟨xs2, SqT.of (s12 _ _ h), rfl⟩
      refine ⟨_, rfl, .ref p2, _, rfl, len2, rfl, _, rfl, ?_⟩
      by_cases dn : ds = []
      · rw [show decide (V.int (xs2.length : Nat) = V.int 0) = true by rw [l2, dn]; rfl]
        exact iteT (say 1 H2 s12 (bad1 (by rw [ed, en, dn]; rfl)))
      have l0 : ¬ xs2.length = 0 := fun z => dn (List.length_eq_zero_iff.mp (by rw [← l2]; exact z))
      refine ite2 (fun e => absurd (by have := V.int.inj (of_decide_eq_true e); omega) l0) (fun _ => ?_)
      have e1 : (areNames dd && !noneIn dd) = true := by
        rw [ed, en]
        cases ds with
        | nil => exact absurd rfl dn
        | cons a r => rfl
      -- closet
      refine ⟨_, rfl, v3, cd, rfl, Rep.mono s12 _ h3, ok.wc, fun H3 s3 => ⟨_, rfl, ?_⟩⟩
      have s13 := s12.trans s3
      cases ec : areNames cd with
      | false =>
        exact iteT (say 2 H3 s13 (by
          unfold badArg headBad
          rw [if_neg (by rw [es]; decide), if_neg (by rw [e1]; decide), if_pos ec]))
      | true =>
      refine iteF ?_
      have head : headBad (.int n) dd cd = none := by
        unfold headBad
        rw [if_neg (by rw [es]; decide), if_neg (by rw [e1]; decide), if_neg (by rw [ec]; decide)]
      have whole : badArg (.int n) dd cd rd = if rulesD n (strsOf dd) (strsOf cd) rd = true then none else some 3 := by
        unfold badArg
        rw [head]
        rfl
      obtain ⟨cs, ecs, ndc, cok, scs⟩ := names_of ec
      have lcc : cs.length ≤ 1000 := by
        rcases ecs with e | e
        · have := ok.lc _ (.inl e)
          rwa [List.length_map] at this
        · have := ok.lc _ (.inr e)
          rwa [List.length_map] at this
      have hC : SeqOf K H v3 (cs.map .str) := by
        rcases ecs with e | e
        · exact .inl (by rw [e] at h3; exact h3)
        · exact .inr (by rw [e] at h3; exact h3)
      rw [sds, scs] at whole
      -- the rules
      refine ⟨_, rfl, by show 2 ≤ sizeLine; decide, fun p hp => ?_⟩
      have s4 := s13.trans (same_upd (o := .tup [.ty "list", .ty "tuple"]) hp)
      have r4 := Rep.mono s4 _ h4
      refine ⟨_, p, _, _, _, _, rfl, upd_same, .cons (.ty _) (.cons (.ty _) .nil), r4.ty, kit_seq r4, _, rfl, ?_⟩
      rw [eq4]
      refine iteT (say 3 _ s4 ?_)
      rw [whole, if_neg]
      cases rd <;> first | (cases eq4; done) | (intro z; cases z)
    | true =>
    cases rd with
    | lst rds =>
      refine ⟨_, (pss_cons (ps_if (PW.pt (pw_or (pt_not (pt_val (pe_def D_law_is_whole hc (hr.mono (by decide)) (pa_cons (pv 0) pa_nil)))) (pw_or1 (pt_not (pt_chain op_le op_le pe_int (pv 0) pe_int)))))
  (pss_one (ps_ret pe_int))
  pss_nil)
 (pss_cons (ps_if (PW.pt (pw_or (pt_not (pt_val (pe_def D_law_are_names hc (hr.mono (by decide)) (pa_cons (pv 1) pa_nil)))) (pw_or1 (pt_cmpR op_eq (pe_callB call_len (by rfl) T.lenN (by decide +kernel) (pa_cons (pv 1) pa_nil)) pe_int (nomark _)))))
  (pss_one (ps_ret pe_int))
  pss_nil)
 (pss_cons (ps_if (pt_not (pt_val (pe_def D_law_are_names hc (hr.mono (by decide)) (pa_cons (pv 2) pa_nil))))
  (pss_one (ps_ret pe_int))
  pss_nil)
 (pss_cons (ps_if (pt_not (pt_val (pe_callB call_isiT (by rfl) T.isinstanceN (by decide +kernel) (pa_cons (pv 3) (pa_cons (pe_tup (pa_cons (pe_bltn (v := .ty "list") (by rfl) T.listN (by decide +kernel) rfl) (pa_cons (pe_bltn (v := .ty "tuple") (by rfl) T.tupleN (by decide +kernel) rfl) pa_nil))) pa_nil)))))
  (pss_one (ps_ret pe_int))
  pss_nil)
 (pss_cons (ps_if (pt_cmpR (op_ne_lst0 hu) (pe_lc (own := [("one", 4)]) (g := gName 4)  rfl sc_law_due.nd (pi_list (pv 3)) (blkOk_by (N := ["states", "doors", "closet", "rules", "one"]) (sc := defScope s_law_due) (by decide +kernel)) (fun _ _ _ _ _ => (pg_name (i := 4) sc_law_due.nd rfl (Or.inl rfl))) (fun _ _ _ _ _ => (pts_one (pt_not (pt_val (pe_def D_law_is_rule hc (hr.mono (by decide)) (pa_cons (pv 0) (pa_cons (pv 1) (pa_cons (pv 2) (pa_cons (pv 4) pa_nil))))))))) (fun _ _ _ _ _ => (pv 4))) (pe_lst pa_nil) (nomark _))
  (pss_one (ps_ret pe_int))
  pss_nil)
 (pss_one (ps_ret (pe_ifExp (pt_cmpR op_eq (pe_callB call_len_dT (by rfl) T.lenN (by decide +kernel) (pa_cons (pe_callTy (call_dictPT rfl hu64) (by rfl) T.dictN (by decide +kernel) (pa_cons (pe_lc (own := [("one", 4)]) (g := gName 4) (tt := tYes) rfl sc_law_due.nd (pi_list (pv 3)) (blkOk_by (N := ["states", "doors", "closet", "rules", "one"]) (sc := defScope s_law_due) (by decide +kernel)) (fun _ _ _ _ _ => (pg_name (i := 4) sc_law_due.nd rfl (Or.inl rfl))) (fun _ _ _ _ _ => pts_nil) (fun _ _ _ _ _ => (pe_tup (pa_cons (pe_slice (sl_tupK (K := K) rfl) (pv 4) po_none (po_some pe_int)) (pa_cons pe_bl pa_nil))))) pa_nil)) pa_nil)) (pe_callB call_len_seq (by rfl) T.lenN (by decide +kernel) (pa_cons (pv 3) pa_nil)) (nomark _)) pe_non pe_int)))))))), ?_⟩
      -- states
      refine ⟨_, rfl, v1, st, rfl, h1, trivial, fun H1 s1 => ⟨_, rfl, ?_⟩⟩
      have bad0 : okStates st = false → badArg st dd cd (.lst rds) = some 0 := fun e => by
        unfold badArg headBad
        rw [if_pos e]
      cases ew : isWhole st with
      | false => exact iteT (say 0 H1 s1 (bad0 (by cases st <;> first | rfl | cases ew)))
      | true =>
      obtain ⟨n, rfl⟩ : ∃ n, st = .int n := by
        cases st with
        | int n => exact ⟨n, rfl⟩
        | _ => cases ew
      obtain rfl : v1 = .int n := h1
      refine iteF ?_
      refine ⟨_, rfl, _, _, rfl, rfl, _, rfl, ?_⟩
      refine ite2 (fun e1 => ?_) (fun e1 => ?_)
      rotate_left
      · have n1 : ¬ 1 ≤ n := by simpa using e1
        exact ⟨_, rfl, iteT (say 0 H1 s1 (bad0 (by simp [okStates, n1])))⟩
      have n1 : 1 ≤ n := by simpa using e1
      refine ⟨_, _, rfl, rfl, _, rfl, ?_⟩
      by_cases n64 : n ≤ 64
      rotate_left
      · rw [decide_eq_false n64]
        exact iteT (say 0 H1 s1 (bad0 (by simp [okStates, n64])))
      rw [decide_eq_true n64]
      refine iteF ?_
      have es : okStates (.int n) = true := by simp [okStates, n1, n64]
      -- doors
      refine ⟨_, rfl, v2, dd, rfl, Rep.mono s1 _ h2, ok.wd, fun H2 s2 => ⟨_, rfl, ?_⟩⟩
      have s12 := s1.trans s2
      have bad1 : (areNames dd && !noneIn dd) = false → badArg (.int n) dd cd (.lst rds) = some 1 := fun e => by
        unfold badArg headBad
        rw [if_neg (by rw [es]; decide), if_pos e]
      cases ed : areNames dd with
      | false => exact iteT (say 1 H2 s12 (bad1 (by rw [ed]; rfl)))
      | true =>
      refine iteF ?_
      obtain ⟨ds, eds, ndd, dok, sds⟩ := names_of ed
      have ldd : ds.length ≤ 1000 := by
        rcases eds with e | e
        · have := ok.ld _ (.inl e)
          rwa [List.length_map] at this
        · have := ok.ld _ (.inr e)
          rwa [List.length_map] at this
      have hd : SeqOf K H v2 (ds.map .str) := by
        rcases eds with e | e
        · exact .inl (by rw [e] at h2; exact h2)
        · exact .inr (by rw [e] at h2; exact h2)
      have en : noneIn dd = ds.isEmpty := by
        rcases eds with e | e <;> rw [e] <;> cases ds <;> rfl
      obtain ⟨p2, xs2, rfl, hp2, rx2⟩ := hd.at1
      have l2 : xs2.length = ds.length := by rw [rx2.length, List.length_map]
      have len2 : LenV K (.ref p2) H2 xs2.length := by
        rcases hp2 with h | h
        · exact .inl ⟨xs2, SqL.of (s12 _ _ h), rfl⟩
        · exact .inr ⟨xs2, SqT.of (s12 _ _ h), rfl⟩
      refine ⟨_, rfl, .ref p2, _, rfl, len2, rfl, _, rfl, ?_⟩
      by_cases dn : ds = []
      · rw [show decide (V.int (xs2.length : Nat) = V.int 0) = true by rw [l2, dn]; rfl]
        exact iteT (say 1 H2 s12 (bad1 (by rw [ed, en, dn]; rfl)))
      have l0 : ¬ xs2.length = 0 := fun z => dn (List.length_eq_zero_iff.mp (by rw [← l2]; exact z))
      refine ite2 (fun e => absurd (by have := V.int.inj (of_decide_eq_true e); omega) l0) (fun _ => ?_)
      have e1 : (areNames dd && !noneIn dd) = true := by
        rw [ed, en]
        cases ds with
        | nil => exact absurd rfl dn
        | cons a r => rfl
      -- closet
      refine ⟨_, rfl, v3, cd, rfl, Rep.mono s12 _ h3, ok.wc, fun H3 s3 => ⟨_, rfl, ?_⟩⟩
      have s13 := s12.trans s3
      cases ec : areNames cd with
      | false =>
        exact iteT (say 2 H3 s13 (by
          unfold badArg headBad
          rw [if_neg (by rw [es]; decide), if_neg (by rw [e1]; decide), if_pos ec]))
      | true =>
      refine iteF ?_
      have head : headBad (.int n) dd cd = none := by
        unfold headBad
        rw [if_neg (by rw [es]; decide), if_neg (by rw [e1]; decide), if_neg (by rw [ec]; decide)]
      have whole : badArg (.int n) dd cd (.lst rds) = if rulesD n (strsOf dd) (strsOf cd) (.lst rds) = true then none else some 3 := by
        unfold badArg
        rw [head]
        rfl
      obtain ⟨cs, ecs, ndc, cok, scs⟩ := names_of ec
      have lcc : cs.length ≤ 1000 := by
        rcases ecs with e | e
        · have := ok.lc _ (.inl e)
          rwa [List.length_map] at this
        · have := ok.lc _ (.inr e)
          rwa [List.length_map] at this
      have hC : SeqOf K H v3 (cs.map .str) := by
        rcases ecs with e | e
        · exact .inl (by rw [e] at h3; exact h3)
        · exact .inr (by rw [e] at h3; exact h3)
      rw [sds, scs] at whole
      -- the rules
      refine ⟨_, rfl, by show 2 ≤ sizeLine; decide, fun p hp => ?_⟩
      have s4 := s13.trans (same_upd (o := .tup [.ty "list", .ty "tuple"]) hp)
      have r4 := Rep.mono s4 _ h4
      refine ⟨_, p, _, _, _, _, rfl, upd_same, .cons (.ty _) (.cons (.ty _) .nil), r4.ty, kit_seq r4, _, rfl, ?_⟩
      refine iteF ?_
      generalize upd H3 p (.tup [.ty "list", .ty "tuple"]) = H4 at s4 r4
      obtain ⟨rl, pl⟩ := ok.rl head rds (.inl rfl)
      obtain ⟨a, xs, rfl, ha, hx⟩ := h4
      have lx := hx.length
      have big : xs.length < sizeLine := by
        rw [lx]
        exact Nat.lt_of_le_of_lt rl (by decide)
      refine ⟨_, rfl, a, rfl, ⟨xs, SqL.of (s4 _ _ ha)⟩, fun D hD => lc_sel (walk_list (xs := xs)) (xs.zip rds) (fun q => if isRuleD n ds cs q.2 = true then none else some q.1) (by rw [List.length_zip, lx]; omega) big hD (fun H' s => SqL.of (s _ _ (s4 _ _ ha))) ?_ ?_⟩
      · rintro i ⟨v', d'⟩ y H6 H7 Kt Kf hd0 hs ⟨rfl, hy⟩ kt kf
        obtain ⟨gv, gd⟩ := List.getElem?_zip_eq_some.mp hd0
        obtain rfl : v' = y := Option.some.inj (gv.symm.trans hy)
        obtain ⟨dy, hdy, ry⟩ := hx.get hy
        obtain rfl : dy = d' := Option.some.inj (hdy.symm.trans gd)
        have u := s4.trans hs
        refine ⟨rfl, _, rfl, _, rfl, _, rfl, _, rfl, .ref p2, v3, v', n, ds, cs, dy, rfl, hd.mono u, hC.mono u, ldd, lcc, Rep.mono u _ ry, (pl dy (List.mem_of_getElem? gd)).1, fun H8 s8 => ⟨_, rfl, ?_⟩⟩
        refine ite2 (fun e => ?_) (fun e => ?_)
        · have e' : isRuleD n ds cs dy = false := by simpa using e
          exact ⟨_, rfl, kt _ _ s8 (by simp only [e']; rfl)⟩
        · have e' : isRuleD n ds cs dy = true := by simpa using e
          exact kf _ s8 (by simp only [e']; rfl)
      · intro H6 hs hd6
        refine ⟨Nat.zero_le _, fun p9 hp9 => ?_⟩
        have s9 := (s4.trans hs).trans (same_upd (o := .lst []) hp9)
        refine ⟨D, p9, _, rfl, same_upd hp9 _ _ hd6, rfl, upd_same, _, rfl, ?_⟩
        rw [sel_ne (fun q : V × Dat => isRuleD n ds cs q.2) (fun q => q.1)]
        have ez : (xs.zip rds).all (fun q => isRuleD n ds cs q.2) = rds.all (isRuleD n ds cs) := by
          have : (xs.zip rds).map (·.2) = rds := List.map_snd_zip (by rw [lx]; exact Nat.le_refl _)
          conv => rhs; rw [← this]
          rw [List.all_map]
          rfl
        rw [ez]
        generalize upd H6 p9 (.lst []) = H8 at s9
        clear hs hd6 hp9
        refine ite2 (fun e => ?_) (fun e => ?_)
        · refine say 3 _ s9 ?_
          rw [whole, if_neg]
          intro z
          have z : rulesIn n ds cs rds = true := z
          unfold rulesIn at z
          rw [Bool.and_eq_true] at z
          rw [z.1] at e
          cases e
        have all : rds.all (isRuleD n ds cs) = true := by simpa using e
        obtain ⟨rs, rfl, okr⟩ := all_rules all fun d hd => (pl d hd).2
        refine ⟨_, rfl, a, rfl, ⟨xs, SqL.of (s9 _ _ ha)⟩, fun D2 hD2 => lc_rep (K := K) (walk_list (xs := xs)) rs (fun r => .tup [keyDat r.key, .bl true]) (.refl _) (by rw [lx, List.length_map]) big hD2 (fun H' s => SqL.of (s _ _ (s9 _ _ ha))) ?_ ?_⟩
        · rintro i r y F7 H7 H7' Kt hr sB sF sL ⟨rfl, hy⟩ kt
          obtain ⟨dy, hdy, ry⟩ := hx.get hy
          rw [List.getElem?_map, hr] at hdy
          obtain rfl : r.dat = dy := Option.some.inj hdy
          obtain ⟨pr, _, rfl, hpr, u1, _, rfl, e1, u2, _, rfl, e2, u3, _, rfl, e3, u4, _, rfl, e4, u5, _, rfl, e5, u6, _, rfl, e6, rfl⟩ := Rep.mono (s9.trans sL) _ ry
          obtain rfl : u1 = .str r.door := e1
          obtain rfl : u2 = .int r.state := e2
          obtain rfl : u3 = .str r.kind := e3
          obtain rfl : u4 = .int r.later := e4
          obtain rfl : u5 = .bl r.keeps := e5
          refine ⟨rfl, _, rfl, _, rfl, pr, _, rfl, SqT.of hpr, cut6, fun q hq => ⟨(show 2 ≤ sizeLine by decide), fun t ht => ?_⟩⟩
          obtain ⟨a1, a2, a3⟩ := put_F (o := .tup (cutV [.str r.door, .int r.state, .str r.kind, .int r.later, .bl r.keeps, u6] none (some 3))) sF hq
          obtain ⟨b1, b2, b3⟩ := put_F (o := .tup [.ref q, .bl true]) a2 ht
          refine kt (.ref t) _ _ (a1.trans b1) b2 ((same_upd hq).trans (same_upd ht)) (fun y o e => ?_) ?_
          · rcases b3 y o e with z | z
            · exact a3 y o z
            · exact .inr ((same_upd hq).free z)
          · have hk : (upd F7 q (.tup (cutV [.str r.door, .int r.state, .str r.kind, .int r.later, .bl r.keeps, u6] none (some 3)))) q = some (.tup (r.key.map kV)) := upd_same
            exact ⟨t, _, rfl, upd_same, _, _, rfl, rep_key (b1 _ _ hk), _, _, rfl, rfl, rfl⟩
        · intro F9 H9 ys sB sFH sL nB fD hD9 hys
          have e0 : (rs.map fun r => (.tup [keyDat r.key, .bl true] : Dat)) = (rs.map fun r => (r.key, Dat.bl true)).map fun p => .tup [keyDat p.1, p.2] := by rw [List.map_map]; rfl
          rw [e0] at hys
          obtain ⟨ts, kvs, rfl, pr, ek, _⟩ := pairs_rep hys
          have ek : kvs.map (·.1) = rs.map Rl.key := by
            rw [ek, List.map_map]
            rfl
          have s10 := s9.trans sL
          refine ⟨D2, ts, kvs, rfl, SqL.of hD9, PairT.mono sFH pr, fun p5 hp5 => ⟨p5, _, rfl, upd_same, ?_⟩⟩
          have s11 := s10.trans (same_upd (o := .dT (mergeT [] kvs)) hp5)
          refine ⟨_, rfl, a, xs, rfl, .inl (SqL.of (s11 _ _ ha)), rfl, _, rfl, ?_⟩
          have cnt : decide (V.int ((mergeT [] kvs).length : Nat) = V.int (xs.length : Nat)) = decide ((rs.map Rl.key).Nodup) := by
            have h1 := mergeT_nodup kvs [] .nil
            have h2 : kvs.length = rs.length := by simpa using congrArg List.length ek
            have h3 : xs.length = rs.length := by rw [lx, List.length_map]
            rw [List.nil_append, ek, List.length_nil, Nat.zero_add, h2, ← h3] at h1
            rw [Bool.eq_iff_iff, decide_eq_true_iff, decide_eq_true_iff, ← h1]
            exact ⟨fun z => by injection z; omega, fun z => by rw [z]⟩
          rw [cnt]
          have rin : rulesIn n ds cs (rs.map Rl.dat) = decide ((rs.map Rl.key).Nodup) := by
            unfold rulesIn
            rw [all, Bool.true_and, List.map_map]
            rfl
          refine ite2 (fun e => ?_) (fun e => ?_)
          · have z := k _ s11
            rw [whole, if_pos (show rulesD n ds cs (.lst (rs.map Rl.dat)) = true from (show rulesIn n ds cs (rs.map Rl.dat) = true by rw [rin]; exact e))] at z
            exact z
          · refine say 3 _ s11 ?_
            rw [whole, if_neg]
            intro z
            have z : rulesIn n ds cs (rs.map Rl.dat) = true := z
            rw [rin] at z
            exact e z
    | tup rds =>
      refine ⟨_, (pss_cons (ps_if (PW.pt (pw_or (pt_not (pt_val (pe_def D_law_is_whole hc (hr.mono (by decide)) (pa_cons (pv 0) pa_nil)))) (pw_or1 (pt_not (pt_chain op_le op_le pe_int (pv 0) pe_int)))))
  (pss_one (ps_ret pe_int))
  pss_nil)
 (pss_cons (ps_if (PW.pt (pw_or (pt_not (pt_val (pe_def D_law_are_names hc (hr.mono (by decide)) (pa_cons (pv 1) pa_nil)))) (pw_or1 (pt_cmpR op_eq (pe_callB call_len (by rfl) T.lenN (by decide +kernel) (pa_cons (pv 1) pa_nil)) pe_int (nomark _)))))
  (pss_one (ps_ret pe_int))
  pss_nil)
 (pss_cons (ps_if (pt_not (pt_val (pe_def D_law_are_names hc (hr.mono (by decide)) (pa_cons (pv 2) pa_nil))))
  (pss_one (ps_ret pe_int))
  pss_nil)
 (pss_cons (ps_if (pt_not (pt_val (pe_callB call_isiT (by rfl) T.isinstanceN (by decide +kernel) (pa_cons (pv 3) (pa_cons (pe_tup (pa_cons (pe_bltn (v := .ty "list") (by rfl) T.listN (by decide +kernel) rfl) (pa_cons (pe_bltn (v := .ty "tuple") (by rfl) T.tupleN (by decide +kernel) rfl) pa_nil))) pa_nil)))))
  (pss_one (ps_ret pe_int))
  pss_nil)
 (pss_cons (ps_if (pt_cmpR (op_ne_lst0 hu) (pe_lc (own := [("one", 4)]) (g := gName 4)  rfl sc_law_due.nd (pi_tup (pv 3)) (blkOk_by (N := ["states", "doors", "closet", "rules", "one"]) (sc := defScope s_law_due) (by decide +kernel)) (fun _ _ _ _ _ => (pg_name (i := 4) sc_law_due.nd rfl (Or.inl rfl))) (fun _ _ _ _ _ => (pts_one (pt_not (pt_val (pe_def D_law_is_rule hc (hr.mono (by decide)) (pa_cons (pv 0) (pa_cons (pv 1) (pa_cons (pv 2) (pa_cons (pv 4) pa_nil))))))))) (fun _ _ _ _ _ => (pv 4))) (pe_lst pa_nil) (nomark _))
  (pss_one (ps_ret pe_int))
  pss_nil)
 (pss_one (ps_ret (pe_ifExp (pt_cmpR op_eq (pe_callB call_len_dT (by rfl) T.lenN (by decide +kernel) (pa_cons (pe_callTy (call_dictPT rfl hu64) (by rfl) T.dictN (by decide +kernel) (pa_cons (pe_lc (own := [("one", 4)]) (g := gName 4) (tt := tYes) rfl sc_law_due.nd (pi_tup (pv 3)) (blkOk_by (N := ["states", "doors", "closet", "rules", "one"]) (sc := defScope s_law_due) (by decide +kernel)) (fun _ _ _ _ _ => (pg_name (i := 4) sc_law_due.nd rfl (Or.inl rfl))) (fun _ _ _ _ _ => pts_nil) (fun _ _ _ _ _ => (pe_tup (pa_cons (pe_slice (sl_tupK (K := K) rfl) (pv 4) po_none (po_some pe_int)) (pa_cons pe_bl pa_nil))))) pa_nil)) pa_nil)) (pe_callB call_len_seq (by rfl) T.lenN (by decide +kernel) (pa_cons (pv 3) pa_nil)) (nomark _)) pe_non pe_int)))))))), ?_⟩
      -- states
      refine ⟨_, rfl, v1, st, rfl, h1, trivial, fun H1 s1 => ⟨_, rfl, ?_⟩⟩
      have bad0 : okStates st = false → badArg st dd cd (.tup rds) = some 0 := fun e => by
        unfold badArg headBad
        rw [if_pos e]
      cases ew : isWhole st with
      | false => exact iteT (say 0 H1 s1 (bad0 (by cases st <;> first | rfl | cases ew)))
      | true =>
      obtain ⟨n, rfl⟩ : ∃ n, st = .int n := by
        cases st with
        | int n => exact ⟨n, rfl⟩
        | _ => cases ew
      obtain rfl : v1 = .int n := h1
      refine iteF ?_
      refine ⟨_, rfl, _, _, rfl, rfl, _, rfl, ?_⟩
      refine ite2 (fun e1 => ?_) (fun e1 => ?_)
      rotate_left
      · have n1 : ¬ 1 ≤ n := by simpa using e1
        exact ⟨_, rfl, iteT (say 0 H1 s1 (bad0 (by simp [okStates, n1])))⟩
      have n1 : 1 ≤ n := by simpa using e1
      refine ⟨_, _, rfl, rfl, _, rfl, ?_⟩
      by_cases n64 : n ≤ 64
      rotate_left
      · rw [decide_eq_false n64]
        exact iteT (say 0 H1 s1 (bad0 (by simp [okStates, n64])))
      rw [decide_eq_true n64]
      refine iteF ?_
      have es : okStates (.int n) = true := by simp [okStates, n1, n64]
      -- doors
      refine ⟨_, rfl, v2, dd, rfl, Rep.mono s1 _ h2, ok.wd, fun H2 s2 => ⟨_, rfl, ?_⟩⟩
      have s12 := s1.trans s2
      have bad1 : (areNames dd && !noneIn dd) = false → badArg (.int n) dd cd (.tup rds) = some 1 := fun e => by
        unfold badArg headBad
        rw [if_neg (by rw [es]; decide), if_pos e]
      cases ed : areNames dd with
      | false => exact iteT (say 1 H2 s12 (bad1 (by rw [ed]; rfl)))
      | true =>
      refine iteF ?_
      obtain ⟨ds, eds, ndd, dok, sds⟩ := names_of ed
      have ldd : ds.length ≤ 1000 := by
        rcases eds with e | e
        · have := ok.ld _ (.inl e)
          rwa [List.length_map] at this
        · have := ok.ld _ (.inr e)
          rwa [List.length_map] at this
      have hd : SeqOf K H v2 (ds.map .str) := by
        rcases eds with e | e
        · exact .inl (by rw [e] at h2; exact h2)
        · exact .inr (by rw [e] at h2; exact h2)
      have en : noneIn dd = ds.isEmpty := by
        rcases eds with e | e <;> rw [e] <;> cases ds <;> rfl
      obtain ⟨p2, xs2, rfl, hp2, rx2⟩ := hd.at1
      have l2 : xs2.length = ds.length := by rw [rx2.length, List.length_map]
      have len2 : LenV K (.ref p2) H2 xs2.length := by
        rcases hp2 with h | h
        · exact .inl ⟨xs2, SqL.of (s12 _ _ h), rfl⟩
        · exact .inr ⟨xs2, SqT.of (s12 _ _ h), rfl⟩
      refine ⟨_, rfl, .ref p2, _, rfl, len2, rfl, _, rfl, ?_⟩
      by_cases dn : ds = []
      · rw [show decide (V.int (xs2.length : Nat) = V.int 0) = true by rw [l2, dn]; rfl]
        exact iteT (say 1 H2 s12 (bad1 (by rw [ed, en, dn]; rfl)))
      have l0 : ¬ xs2.length = 0 := fun z => dn (List.length_eq_zero_iff.mp (by rw [← l2]; exact z))
      refine ite2 (fun e => absurd (by have := V.int.inj (of_decide_eq_true e); omega) l0) (fun _ => ?_)
      have e1 : (areNames dd && !noneIn dd) = true := by
        rw [ed, en]
        cases ds with
        | nil => exact absurd rfl dn
        | cons a r => rfl
      -- closet
      refine ⟨_, rfl, v3, cd, rfl, Rep.mono s12 _ h3, ok.wc, fun H3 s3 => ⟨_, rfl, ?_⟩⟩
      have s13 := s12.trans s3
      cases ec : areNames cd with
      | false =>
        exact iteT (say 2 H3 s13 (by
          unfold badArg headBad
          rw [if_neg (by rw [es]; decide), if_neg (by rw [e1]; decide), if_pos ec]))
      | true =>
      refine iteF ?_
      have head : headBad (.int n) dd cd = none := by
        unfold headBad
        rw [if_neg (by rw [es]; decide), if_neg (by rw [e1]; decide), if_neg (by rw [ec]; decide)]
      have whole : badArg (.int n) dd cd (.tup rds) = if rulesD n (strsOf dd) (strsOf cd) (.tup rds) = true then none else some 3 := by
        unfold badArg
        rw [head]
        rfl
      obtain ⟨cs, ecs, ndc, cok, scs⟩ := names_of ec
      have lcc : cs.length ≤ 1000 := by
        rcases ecs with e | e
        · have := ok.lc _ (.inl e)
          rwa [List.length_map] at this
        · have := ok.lc _ (.inr e)
          rwa [List.length_map] at this
      have hC : SeqOf K H v3 (cs.map .str) := by
        rcases ecs with e | e
        · exact .inl (by rw [e] at h3; exact h3)
        · exact .inr (by rw [e] at h3; exact h3)
      rw [sds, scs] at whole
      -- the rules
      refine ⟨_, rfl, by show 2 ≤ sizeLine; decide, fun p hp => ?_⟩
      have s4 := s13.trans (same_upd (o := .tup [.ty "list", .ty "tuple"]) hp)
      have r4 := Rep.mono s4 _ h4
      refine ⟨_, p, _, _, _, _, rfl, upd_same, .cons (.ty _) (.cons (.ty _) .nil), r4.ty, kit_seq r4, _, rfl, ?_⟩
      refine iteF ?_
      generalize upd H3 p (.tup [.ty "list", .ty "tuple"]) = H4 at s4 r4
      obtain ⟨rl, pl⟩ := ok.rl head rds (.inr rfl)
      obtain ⟨a, xs, rfl, ha, hx⟩ := h4
      have lx := hx.length
      have big : xs.length < sizeLine := by
        rw [lx]
        exact Nat.lt_of_le_of_lt rl (by decide)
      refine ⟨_, rfl, a, rfl, ⟨xs, SqT.of (s4 _ _ ha)⟩, fun D hD => lc_sel (walk_tup (xs := xs)) (xs.zip rds) (fun q => if isRuleD n ds cs q.2 = true then none else some q.1) (by rw [List.length_zip, lx]; omega) big hD (fun H' s => SqT.of (s _ _ (s4 _ _ ha))) ?_ ?_⟩
      · rintro i ⟨v', d'⟩ y H6 H7 Kt Kf hd0 hs ⟨rfl, hy⟩ kt kf
        obtain ⟨gv, gd⟩ := List.getElem?_zip_eq_some.mp hd0
        obtain rfl : v' = y := Option.some.inj (gv.symm.trans hy)
        obtain ⟨dy, hdy, ry⟩ := hx.get hy
        obtain rfl : dy = d' := Option.some.inj (hdy.symm.trans gd)
        have u := s4.trans hs
        refine ⟨rfl, _, rfl, _, rfl, _, rfl, _, rfl, .ref p2, v3, v', n, ds, cs, dy, rfl, hd.mono u, hC.mono u, ldd, lcc, Rep.mono u _ ry, (pl dy (List.mem_of_getElem? gd)).1, fun H8 s8 => ⟨_, rfl, ?_⟩⟩
        refine ite2 (fun e => ?_) (fun e => ?_)
        · have e' : isRuleD n ds cs dy = false := by simpa using e
          exact ⟨_, rfl, kt _ _ s8 (by simp only [e']; rfl)⟩
        · have e' : isRuleD n ds cs dy = true := by simpa using e
          exact kf _ s8 (by simp only [e']; rfl)
      · intro H6 hs hd6
        refine ⟨Nat.zero_le _, fun p9 hp9 => ?_⟩
        have s9 := (s4.trans hs).trans (same_upd (o := .lst []) hp9)
        refine ⟨D, p9, _, rfl, same_upd hp9 _ _ hd6, rfl, upd_same, _, rfl, ?_⟩
        rw [sel_ne (fun q : V × Dat => isRuleD n ds cs q.2) (fun q => q.1)]
        have ez : (xs.zip rds).all (fun q => isRuleD n ds cs q.2) = rds.all (isRuleD n ds cs) := by
          have : (xs.zip rds).map (·.2) = rds := List.map_snd_zip (by rw [lx]; exact Nat.le_refl _)
          conv => rhs; rw [← this]
          rw [List.all_map]
          rfl
        rw [ez]
        generalize upd H6 p9 (.lst []) = H8 at s9
        clear hs hd6 hp9
        refine ite2 (fun e => ?_) (fun e => ?_)
        · refine say 3 _ s9 ?_
          rw [whole, if_neg]
          intro z
          have z : rulesIn n ds cs rds = true := z
          unfold rulesIn at z
          rw [Bool.and_eq_true] at z
          rw [z.1] at e
          cases e
        have all : rds.all (isRuleD n ds cs) = true := by simpa using e
        obtain ⟨rs, rfl, okr⟩ := all_rules all fun d hd => (pl d hd).2
        refine ⟨_, rfl, a, rfl, ⟨xs, SqT.of (s9 _ _ ha)⟩, fun D2 hD2 => lc_rep (K := K) (walk_tup (xs := xs)) rs (fun r => .tup [keyDat r.key, .bl true]) (.refl _) (by rw [lx, List.length_map]) big hD2 (fun H' s => SqT.of (s _ _ (s9 _ _ ha))) ?_ ?_⟩
        · rintro i r y F7 H7 H7' Kt hr sB sF sL ⟨rfl, hy⟩ kt
          obtain ⟨dy, hdy, ry⟩ := hx.get hy
          rw [List.getElem?_map, hr] at hdy
          obtain rfl : r.dat = dy := Option.some.inj hdy
          obtain ⟨pr, _, rfl, hpr, u1, _, rfl, e1, u2, _, rfl, e2, u3, _, rfl, e3, u4, _, rfl, e4, u5, _, rfl, e5, u6, _, rfl, e6, rfl⟩ := Rep.mono (s9.trans sL) _ ry
          obtain rfl : u1 = .str r.door := e1
          obtain rfl : u2 = .int r.state := e2
          obtain rfl : u3 = .str r.kind := e3
          obtain rfl : u4 = .int r.later := e4
          obtain rfl : u5 = .bl r.keeps := e5
          refine ⟨rfl, _, rfl, _, rfl, pr, _, rfl, SqT.of hpr, cut6, fun q hq => ⟨(show 2 ≤ sizeLine by decide), fun t ht => ?_⟩⟩
          obtain ⟨a1, a2, a3⟩ := put_F (o := .tup (cutV [.str r.door, .int r.state, .str r.kind, .int r.later, .bl r.keeps, u6] none (some 3))) sF hq
          obtain ⟨b1, b2, b3⟩ := put_F (o := .tup [.ref q, .bl true]) a2 ht
          refine kt (.ref t) _ _ (a1.trans b1) b2 ((same_upd hq).trans (same_upd ht)) (fun y o e => ?_) ?_
          · rcases b3 y o e with z | z
            · exact a3 y o z
            · exact .inr ((same_upd hq).free z)
          · have hk : (upd F7 q (.tup (cutV [.str r.door, .int r.state, .str r.kind, .int r.later, .bl r.keeps, u6] none (some 3)))) q = some (.tup (r.key.map kV)) := upd_same
            exact ⟨t, _, rfl, upd_same, _, _, rfl, rep_key (b1 _ _ hk), _, _, rfl, rfl, rfl⟩
        · intro F9 H9 ys sB sFH sL nB fD hD9 hys
          have e0 : (rs.map fun r => (.tup [keyDat r.key, .bl true] : Dat)) = (rs.map fun r => (r.key, Dat.bl true)).map fun p => .tup [keyDat p.1, p.2] := by rw [List.map_map]; rfl
          rw [e0] at hys
          obtain ⟨ts, kvs, rfl, pr, ek, _⟩ := pairs_rep hys
          have ek : kvs.map (·.1) = rs.map Rl.key := by
            rw [ek, List.map_map]
            rfl
          have s10 := s9.trans sL
          refine ⟨D2, ts, kvs, rfl, SqL.of hD9, PairT.mono sFH pr, fun p5 hp5 => ⟨p5, _, rfl, upd_same, ?_⟩⟩
          have s11 := s10.trans (same_upd (o := .dT (mergeT [] kvs)) hp5)
          refine ⟨_, rfl, a, xs, rfl, .inr (SqT.of (s11 _ _ ha)), rfl, _, rfl, ?_⟩
          have cnt : decide (V.int ((mergeT [] kvs).length : Nat) = V.int (xs.length : Nat)) = decide ((rs.map Rl.key).Nodup) := by
            have h1 := mergeT_nodup kvs [] .nil
            have h2 : kvs.length = rs.length := by simpa using congrArg List.length ek
            have h3 : xs.length = rs.length := by rw [lx, List.length_map]
            rw [List.nil_append, ek, List.length_nil, Nat.zero_add, h2, ← h3] at h1
            rw [Bool.eq_iff_iff, decide_eq_true_iff, decide_eq_true_iff, ← h1]
            exact ⟨fun z => by injection z; omega, fun z => by rw [z]⟩
          rw [cnt]
          have rin : rulesIn n ds cs (rs.map Rl.dat) = decide ((rs.map Rl.key).Nodup) := by
            unfold rulesIn
            rw [all, Bool.true_and, List.map_map]
            rfl
          refine ite2 (fun e => ?_) (fun e => ?_)
          · have z := k _ s11
            rw [whole, if_pos (show rulesD n ds cs (.tup (rs.map Rl.dat)) = true from (show rulesIn n ds cs (rs.map Rl.dat) = true by rw [rin]; exact e))] at z
            exact z
          · refine say 3 _ s11 ?_
            rw [whole, if_neg]
            intro z
            have z : rulesIn n ds cs (rs.map Rl.dat) = true := z
            rw [rin] at z
            exact e z
    | _ => cases eq4
end
end K

set_option Elab.async false
set_option linter.all false
/-! isinstance of a caught error whose class the reading tells. -/
namespace Er
open PySem PySem.Spec PyProof.Rows L2 G D L S
theorem call_isErC {X : Cx} {a D : Addr} {oe : Obj} {cls : Value} {d : Option Addr} {pn : List (Addr × Obj)} (C : ErI X.K D) (hz : Zc cls d oe) (hf : ∃ vs, oe.data = .fields vs) :
    CallR (X.suite a ((a, oe) :: pn)) (.builtin "isinstance") (fun xs H Q => cls = .ref D ∧ rIsEr X.K D a d xs H Q) := by
  intro pins s σ H xs us Q I r h
  obtain ⟨rfl, h⟩ := h
  exact call_isEr C hz hf pins s σ H xs us Q I r h
end Er

set_option Elab.async false
set_option linter.all false
set_option maxRecDepth 100000
set_option maxHeartbeats 8000000
namespace K
open PySem PySem.Spec PyProof.Rows L2 G D L S C Sx Kx Ex Lt Qe De Er
open Fz hiding Fr
open C8 (pss_cut tCut)
open PySem.W (dataLt alike AllAlike Sortable)
/-- what is heard of four arguments: what stands first in the new tuple, and the place -/
def spHeard (K : PySem.W.Frag) : Sp := fun vs H Q _ => ∃ (v1 v2 v3 v4 : V) (st dd cd rd : Dat), vs = [v1, v2, v3, v4] ∧ Rep K H v1 st ∧ Rep K H v2 dd ∧ Rep K H v3 cd ∧ Rep K H v4 rd ∧ ArgOk st dd cd rd ∧
  ∀ (t : Addr) (H' : Hp), Same H H' → (∀ k, badArg st dd cd rd = some k → H' t = some (.tup [.str "wrong", .int k])) → (badArg st dd cd rd = none → ∃ r, H' t = some (.tup (.str "told" :: r)) ∧ r.length = 4) → Q (.ref t) H'
section
variable {P : Program} {w : World} {K : PySem.W.Frag} {mg : Str → Option Value} {base : Heap}
abbrev s_law_heard : Stmt := top 29
theorem sc_law_heard : FnScope ["states", "doors", "closet", "rules", "found", "e"] ["states", "doors", "closet", "rules"] (defScope s_law_heard) := ⟨rfl, rfl, rfl, by decide +kernel, rfl, by decide +kernel, by decide +kernel⟩
theorem ok_heard {f C W HE fI fW pS gS fD fC fR : Addr} {fd fdI fdS fdD fdC fdR : FuncData} (F : Fun K "_law_heard" "_law_heard" s_law_heard f fd) (T : Bl mg) (gc : GCls K C) (hG : mg "Gate" = some (.ref C)) (hW : mg "Wrong" = some (.ref W)) (hHE : mg "HouseError" = some (.ref HE))
    (EW : ErC K W fW "place") (IW : ErI K W) (xm : PySem.W.exmOne K (.ref W) (.ref HE) = some true) (kW : PySem.W.kitOne K (.ref W) (.ref W) = some true)
    (MG : Mk K C fI) (GI : Fn P w K mg base (L2.CX P w) 5 fI fdI ["self", "states", "doors", "closet", "rules"] (spInitX K C W)) (bI : Binds K fdI ["self", "states", "doors", "closet", "rules"] [])
    (P_states : PropOf K C "states" pS gS) (SF : FnOk P w K mg base CX0 1 gS fdS ["self"] (spStates K C)) (b_states : Binds K fdS ["self"] [])
    (M_doors : Meth K C "doors" fD) (DF : Fn P w K mg base CX0 1 fD fdD ["self"] (spDoors K C)) (b_doors : Binds K fdD ["self"] [])
    (M_closet : Meth K C "closet" fC) (CF : Fn P w K mg base CX0 1 fC fdC ["self"] (spCloset K C)) (b_closet : Binds K fdC ["self"] [])
    (M_rules : Meth K C "rules" fR) (RF : Fn P w K mg base CX0 1 fR fdR ["self"] (spRules K C)) (b_rules : Binds K fdR ["self"] []) :
    Fn P w K mg base CX0 7 f fd ["states", "doors", "closet", "rules"] (spHeard K) := by
  refine fn_calm F sc_law_heard (fun vs H Q E h => ?_) (fun cdv A outer s H vs Q E hc hr h => ?_)
  · obtain ⟨v1, v2, v3, v4, st, dd, cd, rd, rfl, _⟩ := h
    rfl
  · obtain ⟨v1, v2, v3, v4, st, dd, cd, rd, rfl, h1, h2, h3, h4, ok, k⟩ := h
    refine ⟨_, (pss_one (ps_try_as (i := 5) rfl rfl sc_law_heard.nd rfl rfl ⟨rfl, by decide, .inl hHE⟩ takes0 (fun W pn xe tk _ => (pss_cons (ps_set (i := 4) sc_law_heard.nd rfl (Or.inl rfl) (pe_mkS MG GI hc (hr.mono (by decide)) hG bI .nil (fun σ => passAt tk σ) (pa_cons (pv 0) (pa_cons (pv 1) (pa_cons (pv 2) (pa_cons (pv 3) pa_nil))))))
 (pss_one (ps_ret (pe_tup (pa_cons pe_str (pa_cons (pe_prop (pv 4) gc.cl P_states SF (hr.mono (by decide)) b_states .nil pass0 (by rfl)) (pa_cons (pe_mth0 (pv 4) gc.cl M_doors DF hc (hr.mono (by decide)) b_doors .nil pass0) (pa_cons (pe_mth0 (pv 4) gc.cl M_closet CF hc (hr.mono (by decide)) b_closet .nil pass0) (pa_cons (pe_mth0 (pv 4) gc.cl M_rules RF hc (hr.mono (by decide)) b_rules .nil pass0) pa_nil)))))))))) (fun a oe cls d pn hz hf => (pss_one (ps_ret (pe_ifExp (pt_val (pe_callB (call_isErC IW hz hf) (by rfl) T.isinstanceN (by decide +kernel) (pa_cons (pv 5) (pa_cons (pe_glob (v := .ref W) rfl hW rfl) pa_nil)))) (pe_tup (pa_cons pe_str (pa_cons (pe_xf EW.xf EW.nof hz hf (pv 5)) pa_nil))) (pe_tup (pa_cons pe_str (pa_cons pe_non pa_nil))))))))), ?_⟩
    refine ⟨_, rfl, _, rfl, _, rfl, _, rfl, fun x dx nx ndx ne => ?_⟩
    have sG : Same H (upd (upd H dx (.own x)) x (.ins C dx [])) := fun y o e => by
      rw [upd_ne (ne_of_none e nx), upd_ne (ne_of_none e ndx)]
      exact e
    refine ⟨x, dx, v1, v2, v3, v4, st, dd, cd, rd, H, H, rfl, upd_same, .refl H, sG, nx, h1, h2, h3, h4, ok, fun j d H' bad nd sH hx' => ?_, fun n ds cs rs H' good _ _ _ _ _ _ _ _ _ _ _ sH gn => ⟨rfl, ?_⟩⟩
    · refine ⟨true, xm, fun _ a ha => ?_, fun q => nomatch q⟩
      refine ⟨_, rfl, rfl, .ref W, .ref W, true, rfl, fun u hu => hu, kW, fun e' q => by cases q; exact ⟨_, hx'⟩, _, rfl, ?_⟩
      refine iteT ?_
      refine ⟨_, rfl, rfl, rfl, d, _, .int j, rfl, hx', rfl, (show 2 ≤ sizeLine by decide), fun t ht => ?_⟩
      exact k t _ (sH.trans (same_upd ht)) (fun j' e => by
        rw [bad] at e
        cases e
        exact upd_same) fun e => by rw [bad] at e; cases e
    · obtain ⟨dx', d, c, r, kvs, us, ws, e1, e2, e3, e4, e5, e6, e7, e8, z1, z2, z3, z4, z5⟩ := gn.ex
      have ga : GateAt K C H' x n ds cs rs := ⟨dx', d, c, r, kvs, us, ws, e1, e2, e3, e4, e5, e6, e7, RepAll.mono sH _ e8, z4, z5⟩
      refine ⟨_, rfl, x, _, _, rfl, e1, x, n, ds, cs, rs, rfl, ga, ?_⟩
      refine ⟨_, rfl, x, _, _, rfl, e1, rfl, x, n, ds, cs, rs, rfl, ga, fun p us' hp _ => ?_⟩
      have s1 := same_upd (o := .lst (us'.map .str)) hp
      refine ⟨_, rfl, x, _, _, rfl, s1 _ _ e1, rfl, x, n, ds, cs, rs, rfl, ga.mono s1, fun p2 ws' hp2 _ => ?_⟩
      have s2 := s1.trans (same_upd (o := .lst (ws'.map .str)) hp2)
      refine ⟨_, rfl, x, _, _, rfl, s2 _ _ e1, rfl, x, n, ds, cs, rs, rfl, ga.mono s2, fun p3 ys H3 hp3 s3 _ _ => ?_⟩
      refine ⟨(show 5 ≤ sizeLine by decide), fun t ht => ?_⟩
      exact k t _ (((sH.trans s2).trans s3).trans (same_upd ht)) (fun j e => by rw [good] at e; cases e) fun _ => ⟨_, upd_same, rfl⟩
end
end K

set_option Elab.async false
set_option linter.all false
set_option maxRecDepth 100000
set_option maxHeartbeats 8000000
namespace K
open PySem PySem.Spec PyProof.Rows L2 G D L S C Sx Kx Ex Lt Qe De Er
open Fz hiding Fr
open C8 (pss_cut tCut)
open PySem.W (dataLt alike AllAlike Sortable)
/-- a small datum -/
structure El (d : Dat) : Prop where
  fi : Fine 8 600 d
  wd : Wd d
def elOk (d : Dat) : Bool := fineB 8 600 d && wd d
theorem el_all {ds : List Dat} (h : ds.all elOk = true) : ∀ d ∈ ds, El d := fun d hd => by
  have := List.all_eq_true.mp h d hd
  unfold elOk at this
  rw [Bool.and_eq_true] at this
  exact ⟨fine_of this.1, this.2⟩
/-- a rule, bent or not -/
structure Ro (d : Dat) : Prop where
  fi : Fine 9 4300 d
  wd : Wd d
  sx : ∀ xs, d = .tup xs → xs.length = 6 → ∀ e ∈ xs, Fine 8 600 e
theorem wd_ofS {ds : List Dat} (hl : ds.length ≤ 1000) (h : ∀ d ∈ ds, Wd d) : Wd (.lst ds) ∧ Wd (.tup ds) := wd_of hl h
theorem ro_tup {xs : List Dat} (hl : xs.length ≤ 7) (h : ∀ e ∈ xs, El e) : Ro (.tup xs) :=
  ⟨(fine_tup (m := 7) (fun e he => (h e he).fi) hl).mono (by decide) (by decide), (wd_of (Nat.le_trans hl (by decide)) fun e he => (h e he).wd).2, fun ys e _ e' he => by
    injection e with e
    subst e
    exact (h e' he).fi⟩
theorem ro_lst {xs : List Dat} (hl : xs.length ≤ 7) (h : ∀ e ∈ xs, El e) : Ro (.lst xs) :=
  ⟨(fine_lst (m := 7) (fun e he => (h e he).fi) hl).mono (by decide) (by decide), (wd_of (Nat.le_trans hl (by decide)) fun e he => (h e he).wd).1, fun ys e => by cases e⟩
theorem ro_gd {d : Dat} (h : Gd d) : Ro d := ⟨h.fi.mono (by decide) (by decide), h.wd, fun xs e hl x hx => by
  subst e
  have := h.nx
  have : (xs.length != 6 || xs.all (fineB 8 600)) = true := this
  rw [hl] at this
  exact fine_of (List.all_eq_true.mp (by simpa using this) x hx)⟩
theorem el_tx {w : Str} (h : Tx w) : El (.str w) := ⟨h.fine.mono (by decide) (by decide), decide_eq_true (Nat.le_trans h.len (by decide))⟩
theorem el_state {i : Int} (h0 : 0 ≤ i) (h1 : i < 64) : El (.int i) := ⟨(fine_state h0 h1).mono (by decide) (by decide), rfl⟩
theorem el_n {n : Int} (h0 : 1 ≤ n) (h1 : n ≤ 64) : El (.int n) := by
  by_cases h : n < 64
  · exact el_state (by omega) h
  · obtain rfl : n = 64 := by omega
    exact ⟨fine_of (by decide +kernel), rfl⟩
theorem told_tx {n : Int} {ds cs : List Str} {r : Rl} (h : r.Ok n ds cs) (nc : Names cs) : ∀ w ∈ r.told, Tx w := fun w hw => by
  rcases List.mem_append.mp (h.told1 w hw) with z | z
  · exact tx_name (nc.ok _ z)
  · simp only [List.mem_cons, List.not_mem_nil, or_false] at z
    rcases z with rfl | rfl <;> exact tx_of (by decide +kernel)
theorem rule_els {n : Int} {ds cs : List Str} {rs : List Rl} (wf : WfG n ds cs rs) {r : Rl} (h : r ∈ rs) : ∀ e ∈ ([.str r.door, .int r.state, .str r.kind, .int r.later, .bl r.keeps, .tup (r.told.map .str)] : List Dat), El e := by
  intro e he
  have ok := wf.ok r h
  have n64 := wf.n64
  have s1 := ok.s1
  have l1 := ok.l1
  simp only [List.mem_cons, List.not_mem_nil, or_false] at he
  rcases he with rfl | rfl | rfl | rfl | rfl | rfl
  · exact el_tx (tx_name (wf.nd.ok _ ok.door))
  · exact el_state ok.s0 (by omega)
  · exact el_tx (kind_tx wf.nc ok.kind)
  · exact el_state ok.l0 (by omega)
  · exact ⟨(fine_bl _).mono (by decide) (by decide), rfl⟩
  · have tw := told_tx ok wf.nc
    refine ⟨(fine_tup (k := 1) (n := 82) (m := 4) (fun e he => ?_) (by rw [List.length_map]; exact wf.tl r h)).mono (by decide) (by decide), (wd_of (by rw [List.length_map]; exact Nat.le_trans (wf.tl r h) (by decide)) fun e he => ?_).2⟩
    · obtain ⟨w, hw, rfl⟩ := List.mem_map.mp he
      exact (tw w hw).fine
    · obtain ⟨w, hw, rfl⟩ := List.mem_map.mp he
      exact (el_tx (tw w hw)).wd
theorem rule_ro {n : Int} {ds cs : List Str} {rs : List Rl} (wf : WfG n ds cs rs) {r : Rl} (h : r ∈ rs) : Ro r.dat := ro_tup (show 6 ≤ 7 by decide) (rule_els wf h)
/-- the law's keys in order -/
theorem keys_sorted {K : PySem.W.Frag} {F H : Hp} {kvs : List (List Key × V)} {rs : List Rl} (tf : TupF F H) (e : kvs.map (·.1) = rs.map Rl.key) {ys : List V}
    (h : RepAll K H ys (sortD (kvs.map fun p => keyDat p.1))) : ∃ rs' : List Rl, rs'.Perm rs ∧ RepAll K F ys ((rs'.map Rl.key).map keyDat) := by
  have ek : (kvs.map fun p => keyDat p.1) = rs.map (fun r => keyDat r.key) := by
    have : (kvs.map fun p => keyDat p.1) = (kvs.map (·.1)).map keyDat := by rw [List.map_map]; rfl
    rw [this, e, List.map_map]
    rfl
  rw [ek] at h
  obtain ⟨rs', e', p⟩ := perm_map (f := fun r : Rl => keyDat r.key) (show (sortD (rs.map fun r => keyDat r.key)).Perm (rs.map fun r => keyDat r.key) from List.mergeSort_perm _ _) rs rfl
  refine ⟨rs', p, keys_in tf ?_⟩
  rw [e'] at h
  rw [List.map_map]
  exact h
theorem ord_kvs {kvs : List (List Key × V)} {rs : List Rl} (e : kvs.map (·.1) = rs.map Rl.key) : Ord (kvs.map fun p => keyDat p.1) := by
  have : (kvs.map fun p => keyDat p.1) = (kvs.map (·.1)).map keyDat := by rw [List.map_map]; rfl
  rw [this, e]
  exact ord_keys rs
/-- all that is new is frozen -/
theorem go_tup {b : Addr} {F H F1 H1 : Hp} (f : Fz.Fr F H b) (t : TupF F H) (a : Go b F H F1 H1) : ∃ F2, Go b F H F2 H1 ∧ Same F1 F2 ∧ TupF F2 H1 := by
  obtain ⟨ob, hb⟩ := f.some
  have sF : Same F1 (fun y => if (H y).isSome then F1 y else H1 y) := fun y o e => by
    show (if (H y).isSome then F1 y else H1 y) = _
    split
    · exact e
    · exact a.fr.same _ _ e
  refine ⟨fun y => if (H y).isSome then F1 y else H1 y, ⟨⟨fun y o e => ?_, ?_, a.fr.cell' (.refl _) sF⟩, a.up.trans sF, a.but, fun y o e => ?_⟩, sF, fun p xs e => ?_⟩
  · have e : (if (H y).isSome then F1 y else H1 y) = some o := e
    split at e
    · exact a.fr.same _ _ e
    · exact e
  · show (if (H b).isSome then F1 b else H1 b) = none
    rw [hb]
    exact a.fr.out
  · have e : (if (H y).isSome then F1 y else H1 y) = some o := e
    split at e
    · exact a.new _ _ e
    · rename_i z
      exact .inr (by simpa using z)
  · show (if (H p).isSome then F1 p else H1 p) = _
    split
    · rename_i z
      obtain ⟨u, hu⟩ := Option.isSome_iff_exists.mp z
      have nb : p ≠ b := fun z => by
        obtain ⟨l, o, ⟨c0, c1, c2, ms, q1, q2, q3⟩, hl⟩ := a.fr.cell
        rw [z, q1] at e
        cases e
      have := a.but _ _ nb hu
      rw [e] at this
      cases this
      exact a.up _ _ (t _ _ hu)
    · exact e
def spBentRule (K : PySem.W.Frag) : Sp := fun vs H Q _ => ∃ (b g : Addr) (v : V) (d : Dat) (F : Hp) (n : Int) (ds cs : List Str) (rs : List Rl), vs = [.ref b, v, .ref g] ∧ Fz.Fr F H b ∧ TupF F H ∧ LGF K F g n ds cs rs ∧ WfG n ds cs rs ∧ rs ≠ [] ∧ Rep K F v d ∧ Ro d ∧
  ∀ v' d' F' H', Go b F H F' H' → Rep K F' v' d' → Ro d' → Q v' H'
section
variable {P : Program} {w : World} {K : PySem.W.Frag} {mg : Str → Option Value} {base : Heap}
abbrev s_law_bent_rule : Stmt := top 30
theorem sc_law_bent_rule : FnScope ["bag", "rule", "gate", "way", "found", "at", "some", "bare"] ["bag", "rule", "gate"] (defScope s_law_bent_rule) := ⟨rfl, rfl, rfl, by decide +kernel, rfl, by decide +kernel, by decide +kernel⟩
theorem ok_bent_rule {f : Addr} {fd : FuncData} (F : Fun K "_law_bent_rule" "_law_bent_rule" s_law_bent_rule f fd) (T : Bl mg)
    (D_law_take : Def P w K mg base 2 "_law_take" ["bag", "many"] spTake) (D_law_one : Def P w K mg base 3 "_law_one" ["bag", "things"] spOne)
    (D_law_odd : Def P w K mg base 4 "_law_odd" ["bag"] (spDraw K Gd)) : Fn P w K mg base CX0 5 f fd ["bag", "rule", "gate"] (spBentRule K) := by
  refine fn_calm F sc_law_bent_rule (fun vs H Q E h => ?_) (fun cdv A outer s H vs Q E hc hr h => ?_)
  · obtain ⟨b, g, v, d, F, n, ds, cs, rs, rfl, _⟩ := h
    rfl
  · obtain ⟨b, g, v, d, F0, n, ds, cs, rs, rfl, fr, tf, lgf, wf, rne, hv, ro, k⟩ := h
    have hu := hu_of hr
    have hu64 := hr.units
    obtain ⟨r, kvs, lg, hR, lr⟩ := lgf.ex
    obtain ⟨dd, cc, hg, hd, hC⟩ := lg.ex
    have odd : ∀ v' d' F' H', Go b F0 H F' H' → Rep K F' v' d' → Gd d' → Q v' H' := fun v' d' F' H' g1 r1 gd => k v' d' F' H' g1 r1 (ro_gd gd)
    refine ⟨_, (pss_cons (ps_if (PW.pt (pw_or (pt_not (pt_val (pe_callB call_isi (by rfl) T.isinstanceN (by decide +kernel) (pa_cons (pv 1) (pa_cons (pe_bltn (v := .ty "tuple") (by rfl) T.tupleN (by decide +kernel) rfl) pa_nil))))) (pw_or1 (pt_cmpR op_ne (pe_callB call_len_seq (by rfl) T.lenN (by decide +kernel) (pa_cons (pv 1) pa_nil)) pe_int (nomark _)))))
  (pss_one (ps_ret (pe_def D_law_odd hc (hr.mono (by decide)) (pa_cons (pv 0) pa_nil))))
  pss_nil)
 (pss_cons (ps_par3 (i := 3) (j := 4) (l := 5) (by rfl) sc_law_bent_rule.nd rfl rfl rfl (by decide) (by decide) (by decide) rfl rfl rfl (pa_cons (pe_def D_law_take hc (hr.mono (by decide)) (pa_cons (pv 0) (pa_cons pe_int pa_nil))) (pa_cons (pe_callTy call_list_of (by rfl) T.listN (by decide +kernel) (pa_cons (pv 1) pa_nil)) (pa_cons (pe_def D_law_take hc (hr.mono (by decide)) (pa_cons (pv 0) (pa_cons pe_int pa_nil))) pa_nil))) (by rfl))
 (pss_cons (ps_if (pt_cmpR op_eq (pv 3) pe_int (nomark _))
  (pss_one (ps_ret (pe_def D_law_one hc (hr.mono (by decide)) (pa_cons (pv 0) (pa_cons (pe_lst (pa_cons (pv 4) (pa_cons (pe_slice sl_tup (pv 1) po_none (po_some pe_int)) (pa_cons (pe_op op_catT (pv 1) (pe_lit (d := .tup [.int 0]) 9 (by rfl) (by rfl))) (pa_cons pe_non pa_nil))))) pa_nil)))))
  pss_nil)
 (pss_cut (ps_if (pt_cmpR op_lt (pv 3) pe_int (nomark _))
  (pss_cons (ps_set (i := 6) sc_law_bent_rule.nd rfl (Or.inl rfl) (pe_lst (pa_mix 9 6 (ds := [.non, .bl true, .str "", .str "?", .str "zz", .int (-(1 : Int))]) (by rfl) (by rfl) (pa_cons (pe_dget hu (pv 2) pe_str (fun _ _ => rfl)) (pa_cons (pe_lit (d := .tup []) 9 (by rfl) (by rfl)) (pa_cons (pe_lit (d := .tup [.str "+given"]) 9 (by rfl) (by rfl)) (pa_cons (pe_lit (d := .lst [.str "+kept"]) 9 (by rfl) (by rfl)) (pa_cons (pe_lit (d := .tup [.str "+kept", .str "?"]) 9 (by rfl) (by rfl)) (pa_cons pe_str (pa_cons pe_int pa_nil))))))))))
 (pss_one (ps_asg (pe_def D_law_one hc (hr.mono (by decide)) (pa_cons (pv 0) (pa_cons (pe_op op_cat (pe_op op_cat (pv 6) (pe_dget hu (pv 2) pe_str (fun _ _ => rfl))) (pe_dget hu (pv 2) pe_str (fun _ _ => rfl))) pa_nil))) (pg_sub (pv 4) (pv 5) set_list))))
  (pss_one (ps_if (pt_cmpR op_lt (pv 3) pe_int (nomark _))
  (pss_cons (ps_set (i := 6) sc_law_bent_rule.nd rfl (Or.inl rfl) (pe_lst (pa_cons (pe_lit (d := .lst [.non, .str "zz", .int 0]) 9 (by rfl) (by rfl)) (pa_cons (pe_lst (pa_cons (pe_un un_neg pe_int) (pa_cons (pe_dget hu (pv 2) pe_str (fun _ _ => rfl)) (pa_cons pe_bl (pa_cons pe_non pa_nil))))) (pa_cons (pe_lit (d := .lst [.str "zz", .non, .int 5]) 9 (by rfl) (by rfl)) (pa_cons (pe_lst (pa_cons (pe_un un_neg pe_int) (pa_cons (pe_dget hu (pv 2) pe_str (fun _ _ => rfl)) (pa_cons pe_bl (pa_cons pe_non pa_nil))))) pa_nil))))))
 (pss_cons (ps_set (i := 7) sc_law_bent_rule.nd rfl (Or.inl rfl) (pe_lit (d := .lst [.lst [.str "+kept"], .tup [.str "?"], .str "", .str "+kept", .tup [.str "zz"], .tup [.str "+kept", .str "zz"], .non, .tup [.lst [.str "+kept"]], .tup [.dct [] []], .tup [.non]]) 9 (by rfl) (by rfl)))
 (pss_cons (ps_set (i := 6) sc_law_bent_rule.nd rfl (Or.inl rfl) (pe_op op_cat (pv 6) (pe_lst (pa_cons (pe_lit (d := .lst [.non, .int 0, .int 1]) 9 (by rfl) (by rfl)) (pa_cons (pv 7) pa_nil)))))
 (pss_one (ps_asg (pe_def D_law_one hc (hr.mono (by decide)) (pa_cons (pv 0) (pa_cons (pe_ix ix_list (pv 6) (pv 5) (fun _ _ => rfl)) pa_nil))) (pg_sub (pv 4) (pv 5) set_list))))))
  (pss_one (ps_if (pt_cmpR op_eq (pv 3) pe_int (nomark _))
  (pss_one (ps_asg (pe_lit (d := .tup [.str "", .tup [.str "+given"]]) 9 (by rfl) (by rfl)) (pg_tup (by rfl) (pgs_cons (pg_sub (pv 4) pe_int set_list) (pgs_cons (pg_sub (pv 4) pe_int set_list) pgs_nil)))))
  (pss_one (ps_if (pt_cmpR op_eq (pv 3) pe_int (nomark _))
  (pss_one (ps_asg (pe_lit (d := .tup [.str "", .bl true]) 9 (by rfl) (by rfl)) (pg_tup (by rfl) (pgs_cons (pg_sub (pv 4) pe_int set_list) (pgs_cons (pg_sub (pv 4) pe_int set_list) pgs_nil)))))
  (pss_one (ps_set (i := 4) sc_law_bent_rule.nd rfl (Or.inl rfl) (pe_op op_cat (pe_callTy call_list_of (by rfl) T.listN (by decide +kernel) (pa_cons (pe_def D_law_one hc (hr.mono (by decide)) (pa_cons (pv 0) (pa_cons (pe_callB (call_sortedT rfl hu64) (by rfl) T.sortedN (by decide +kernel) (pa_cons (pe_dget hu (pv 2) pe_str (fun _ _ => rfl)) pa_nil)) pa_nil))) pa_nil)) (pe_slice sl_list (pv 4) (po_some pe_int) po_none)))))))))))
 (pss_one (ps_ret (pe_callTy call_tuple_of (by rfl) T.tupleN (by decide +kernel) (pa_cons (pv 4) pa_nil)))))))), ?_⟩
    have hv1 := Rep.mono fr.same _ hv
    refine ⟨_, rfl, _, _, _, _, _, rfl, .ty "tuple", hv1.ty, kit_tup hv1, _, rfl, ?_⟩
    cases d with
    | tup xs =>
      refine iteF ?_
      obtain ⟨a, vs, rfl, ha, hxs⟩ := hv
      have lx := hxs.length
      refine ⟨_, rfl, a, _, rfl, .inr (SqT.of (fr.same _ _ ha)), rfl, _, rfl, ?_⟩
      have e6 : ∀ b : Bool, b = (!decide (V.int (vs.length : Nat) = V.int 6)) → b = !decide (xs.length = 6) := fun b h => by
        rw [h, lx]
        by_cases q : xs.length = 6
        · simp [q]
        · have : ¬ ((xs.length : Nat) : Int) = 6 := fun z => q (by omega)
          simp [q, this]
      refine ite2 (fun e => ?_) (fun e => ?_)
      · exact ⟨_, rfl, b, F0, rfl, fr, odd⟩
      have l6 : xs.length = 6 := Classical.byContradiction fun q => e (by rw [e6 _ rfl, decide_eq_false q]; rfl)
      have els : ∀ e ∈ xs, El e := fun e he => ⟨ro.sx xs rfl l6 e he, (wd_tup ro.wd).2 e he⟩
      obtain ⟨d1, d2, d3, d4, d5, d6, v1, v2, v3, v4, v5, v6, rfl, rfl⟩ : ∃ d1 d2 d3 d4 d5 d6 v1 v2 v3 v4 v5 v6, xs = [d1, d2, d3, d4, d5, d6] ∧ vs = [v1, v2, v3, v4, v5, v6] := by
        match xs, vs, l6, lx with
        | [d1, d2, d3, d4, d5, d6], [v1, v2, v3, v4, v5, v6], _, _ => exact ⟨d1, d2, d3, d4, d5, d6, v1, v2, v3, v4, v5, v6, rfl, rfl⟩
      refine ⟨_, rfl, b, 12, rfl, fr.bag, by decide, by decide, fun wy H1 w0 w12 sb1 bt1 => ⟨_, rfl, a, [v1, v2, v3, v4, v5, v6], rfl, ?_⟩⟩
      have g1 := (Go.refl fr).took sb1 bt1
      refine ⟨.inr (SqT.of (g1.same _ _ ha)), fun D hD => ?_⟩
      have own2 := g1.own (G := El) hD hxs els
      generalize upd H1 D (.lst [v1, v2, v3, v4, v5, v6]) = H2 at own2
      refine ⟨_, rfl, b, 6, rfl, own2.go.bag, by decide, by decide, fun q H3 q0 q6 sb3 bt3 => ⟨_, _, _, rfl, ?_⟩⟩
      have own4 := own2.on ((Go.refl own2.go.fr).took sb3 bt3)
      clear own2 sb1 bt1 sb3 bt3
      refine ⟨_, rfl, rfl, _, rfl, ?_⟩
      refine ite2 (fun e => ?_) (fun e => ?_)
      · obtain ⟨gE, rE⟩ := own4.end
        generalize upd F0 D (.lst [v1, v2, v3, v4, v5, v6]) = FE at gE rE
        refine ⟨_, rfl, _, rfl, _, rfl, _, rfl, a, [v1, v2, v3, v4, v5, v6], rfl, SqT.of (gE.same _ _ (gE.up _ _ ha)), (show ¬ (HT.sIx 6 0 none = 0 ∧ HT.sIx 6 6 (some 5) = 6) by decide +kernel), fun p5 hp5 => ?_⟩
        obtain ⟨F5, g5, s5, at5⟩ := gE.put' (o := .tup (cutV [v1, v2, v3, v4, v5, v6] none (some 5))) hp5
        refine ⟨_, rfl, fun vz N6 H6 n6 r6 => ?_⟩
        obtain ⟨F6, g6, s6, t6⟩ := g5.lit' n6
        obtain ⟨az, xz, rfl, hz, rz⟩ := Rep.mono t6 _ r6
        have up5 := gE.up.trans (s5.trans s6)
        obtain ⟨z0, _, rfl, rz0, rz1⟩ := rz
        obtain rfl : z0 = .int 0 := rz0
        cases rz1
        refine ⟨a, az, [v1, v2, v3, v4, v5, v6], [.int 0], rfl, rfl, SqT.of (g6.same _ _ (up5 _ _ ha)), SqT.of (g6.same _ _ hz), by simp, (show 6 + 1 ≤ sizeLine by decide), (fun z => by cases z), fun _ p7 hp7 => ?_⟩
        obtain ⟨F7, g7, s7, at7⟩ := g6.put' (o := .tup ([v1, v2, v3, v4, v5, v6] ++ [.int 0])) hp7
        refine ⟨(show 4 ≤ sizeLine by decide), fun p8 hp8 => ?_⟩
        obtain ⟨F8, g8, s8, at8⟩ := g7.put' (o := .lst [.ref D, .ref p5, .ref p7, .non]) hp8
        have u8 := (s5.trans s6).trans (s7.trans s8)
        have hx8 : RepAll K F8 [v1, v2, v3, v4, v5, v6] [d1, d2, d3, d4, d5, d6] := RepAll.mono (gE.up.trans u8) _ hxs
        obtain ⟨w1, _, ew1, x1, w2, _, ew2, x2, w3, _, ew3, x3, w4, _, ew4, x4, w5, _, ew5, x5, w6, _, ew6, x6, ew7⟩ := hx8
        injection ew1 with ea eb; subst ea eb
        injection ew2 with ea eb; subst ea eb
        injection ew3 with ea eb; subst ea eb
        injection ew4 with ea eb; subst ea eb
        injection ew5 with ea eb; subst ea eb
        injection ew6 with ea eb; subst ea eb
        have all : RepAll K F8 [V.ref D, .ref p5, .ref p7, .non] [.lst [d1, d2, d3, d4, d5, d6], .tup [d1, d2, d3, d4, d5], .tup [d1, d2, d3, d4, d5, d6, .int 0], .non] :=
          ⟨_, _, rfl, Rep.mono u8 _ rE, _, _, rfl, ⟨p5, _, rfl, (s6.trans (s7.trans s8)) _ _ at5, _, _, rfl, x1, _, _, rfl, x2, _, _, rfl, x3, _, _, rfl, x4, _, _, rfl, x5, rfl⟩,
            _, _, rfl, ⟨p7, _, rfl, s8 _ _ at7, _, _, rfl, x1, _, _, rfl, x2, _, _, rfl, x3, _, _, rfl, x4, _, _, rfl, x5, _, _, rfl, x6, _, _, rfl, rfl, rfl⟩, _, _, rfl, rfl, rfl⟩
        have good : ∀ d ∈ ([.lst [d1, d2, d3, d4, d5, d6], .tup [d1, d2, d3, d4, d5], .tup [d1, d2, d3, d4, d5, d6, .int 0], .non] : List Dat), Ro d := by
          intro d hd
          simp only [List.mem_cons, List.not_mem_nil, or_false] at hd
          rcases hd with rfl | rfl | rfl | rfl
          · exact ro_lst (show 6 ≤ 7 by decide) els
          · exact ro_tup (show 5 ≤ 7 by decide) fun e he => els e (by
              simp only [List.mem_cons, List.not_mem_nil, or_false] at he ⊢
              rcases he with h | h | h | h | h <;> simp [h])
          · refine ro_tup (show 7 ≤ 7 by decide) fun e he => ?_
            simp only [List.mem_cons, List.not_mem_nil, or_false] at he
            rcases he with h | h | h | h | h | h | rfl
            · exact els e (by simp [h])
            · exact els e (by simp [h])
            · exact els e (by simp [h])
            · exact els e (by simp [h])
            · exact els e (by simp [h])
            · exact els e (by simp [h])
            · exact ⟨fine_of (by decide +kernel), rfl⟩
          · exact ⟨fine_of (by decide +kernel), rfl, fun xs e => by cases e⟩
        refine ⟨b, p8, _, rfl, g8.bag, upd_same, g8.ne at8, by simp, (show 4 < 1000000 by decide), fun v9 H9 hv9 sb9 bt9 => ?_⟩
        obtain ⟨d9, hd9, rd9⟩ := rep_mem all hv9
        exact k _ _ _ _ (g8.took sb9 bt9) rd9 (good d9 hd9)
      have eq : ((q.toNat : Nat) : Int) = q := Int.toNat_of_nonneg q0
      have hq : q.toNat < 6 := by omega
      have ixq : ∀ ys : List V, ys.length = 6 → ixN ys.length q = some q.toNat := fun ys hy => by
        unfold ixN
        rw [if_pos q0, if_pos (by rw [hy]; show q < 6; exact q6)]
      have elS : ∀ (es : List Dat) (i : Nat) (e : Dat), (∀ x ∈ es, El x) → El e → ∀ x ∈ es.set i e, El x := fun es i e h he x hx => by
        rcases List.mem_or_eq_of_mem_set hx with h1 | h1
        · exact h x h1
        · rw [h1]; exact he
      refine ⟨fun σ H' => ∃ D' F' ds6 o1 o2, σ = [some (.ref b), some (.ref a), some (.ref g), some (.int wy), some (.ref D'), some (.int q), o1, o2] ∧ Go b F0 H F' H' ∧ Rep K F' (.ref D') (.lst ds6) ∧ ds6.length ≤ 7 ∧ ∀ e ∈ ds6, El e, ?_, ?_⟩
      · refine ⟨_, rfl, _, _, rfl, rfl, _, rfl, ?_⟩
        refine ite2 (fun e1 => ?_) (fun e1 => ?_)
        · intro vs5 N5 H5 n5 r5
          obtain ⟨F5, g5, s5, t5⟩ := (Go.refl own4.go.fr).lit' n5
          have own5 := own4.on g5
          have l5 := r5.length
          refine ⟨_, rfl, g, _, rfl, dg (own5.go.same _ _ (own5.go.up _ _ hg)) (lg_states n dd cc r), fun va Na Ha na ra => ?_⟩
          obtain ⟨Fa, ga, sa, ta⟩ := (Go.refl own5.go.fr).lit' na
          have owna := own5.on ga
          intro vb Nb Hb nb rb
          obtain ⟨Fb, gb, sb, tb⟩ := (Go.refl owna.go.fr).lit' nb
          have ownb := owna.on gb
          intro vc Nc Hc nc rc
          obtain ⟨Fc, gc, sc, tc⟩ := (Go.refl ownb.go.fr).lit' nc
          have ownc := ownb.on gc
          intro vd Nd Hd nd rd
          obtain ⟨Fd, gd, sd, td⟩ := (Go.refl ownc.go.fr).lit' nd
          have ownd := ownc.on gd
          refine ⟨by show (vs5 ++ [V.int n, va, vb, vc, vd, .str "+kept", .int 0]).length ≤ sizeLine; rw [List.length_append, l5]; exact (by decide : 6 + 7 ≤ sizeLine), fun p6 hp6 => ?_⟩
          obtain ⟨F6, g6, s6, at6⟩ := (Go.refl ownd.go.fr).put' (o := .lst (vs5 ++ [V.int n, va, vb, vc, vd, .str "+kept", .int 0])) hp6
          have own6 := ownd.on g6
          have l6' : (vs5 ++ [V.int n, va, vb, vc, vd, .str "+kept", .int 0]).length = 13 := by rw [List.length_append, l5]; rfl
          refine ⟨_, rfl, _, rfl, _, rfl, g, _, rfl, dg (own6.go.same _ _ (own6.go.up _ _ hg)) (lg_closet n dd cc r), p6, cc, _, _, rfl, rfl, own6.go.same _ _ at6, own6.go.same _ _ (own6.go.up _ _ hC), ?_, fun p7 hp7 => ?_⟩
          · rw [l6', List.length_map]
            exact Nat.le_trans (Nat.add_le_add_left wf.lc 13) (by decide)
          obtain ⟨F7, g7, s7, at7⟩ := (Go.refl own6.go.fr).put' (o := .lst ((vs5 ++ [V.int n, va, vb, vc, vd, .str "+kept", .int 0]) ++ cs.map V.str)) hp7
          have own7 := own6.on g7
          refine ⟨_, rfl, g, _, rfl, dg (own7.go.same _ _ (own7.go.up _ _ hg)) (lg_doors n dd cc r), p7, dd, _, _, rfl, rfl, own7.go.same _ _ at7, own7.go.same _ _ (own7.go.up _ _ hd), ?_, fun p8 hp8 => ?_⟩
          · rw [List.length_append, l6', List.length_map, List.length_map]
            exact Nat.le_trans (Nat.add_le_add (Nat.add_le_add_left wf.lc 13) wf.nd.len) (by decide)
          obtain ⟨F8, g8, s8, at8⟩ := (Go.refl own7.go.fr).put' (o := .lst (((vs5 ++ [V.int n, va, vb, vc, vd, .str "+kept", .int 0]) ++ cs.map V.str) ++ ds.map V.str)) hp8
          have own8 := own7.on g8
          have u68 := (s6.trans s7).trans s8
          have all : RepAll K F8 (((vs5 ++ [V.int n, va, vb, vc, vd, .str "+kept", .int 0]) ++ cs.map V.str) ++ ds.map V.str)
              ((([.non, .bl true, .str "", .str "?", .str "zz", .int (-(1 : Int))] ++ [.int n, .tup [], .tup [.str "+given"], .lst [.str "+kept"], .tup [.str "+kept", .str "?"], .str "+kept", .int 0]) ++ cs.map Dat.str) ++ ds.map Dat.str) := by
            refine RepAll.append (RepAll.append (RepAll.append (RepAll.mono (t5.trans ((sa.trans sb).trans (sc.trans sd))) _ r5 |>.mono u68) ?_) (RepAll.of_strs _)) (RepAll.of_strs _)
            exact ⟨_, _, rfl, rfl, _, _, rfl, Rep.mono (ta.trans ((sb.trans sc).trans (sd.trans u68))) _ ra, _, _, rfl, Rep.mono (tb.trans ((sc.trans sd).trans u68)) _ rb, _, _, rfl, Rep.mono (tc.trans (sd.trans u68)) _ rc, _, _, rfl, Rep.mono (td.trans u68) _ rd, _, _, rfl, rfl, _, _, rfl, rfl, rfl⟩
          have good : ∀ d ∈ ((([.non, .bl true, .str "", .str "?", .str "zz", .int (-(1 : Int))] ++ [.int n, .tup [], .tup [.str "+given"], .lst [.str "+kept"], .tup [.str "+kept", .str "?"], .str "+kept", .int 0]) ++ cs.map Dat.str) ++ ds.map Dat.str : List Dat), El d := by
            intro d hd
            rcases List.mem_append.mp hd with hd | hd
            · rcases List.mem_append.mp hd with hd | hd
              · rcases List.mem_append.mp hd with hd | hd
                · exact el_all (by decide +kernel) d hd
                · rcases List.mem_cons.mp hd with rfl | hd
                  · exact el_n wf.n1 wf.n64
                  · exact el_all (by decide +kernel) d hd
              · obtain ⟨w, hw, rfl⟩ := List.mem_map.mp hd
                exact el_tx (tx_name (wf.nc.ok _ hw))
            · obtain ⟨w, hw, rfl⟩ := List.mem_map.mp hd
              exact el_tx (tx_name (wf.nd.ok _ hw))
          refine ⟨b, p8, _, rfl, own8.go.bag, upd_same, own8.go.ne at8, by simp, ?_, fun v9 H9 hv9 sb9 bt9 => ?_⟩
          · rw [List.length_append, List.length_append, l6', List.length_map, List.length_map]
            exact Nat.lt_of_le_of_lt (Nat.add_le_add (Nat.add_le_add_left wf.lc 13) wf.nd.len) (by decide)
          obtain ⟨d9, hd9, rd9⟩ := rep_mem all hv9
          have own9 := own8.on ((Go.refl own8.go.fr).took sb9 bt9)
          refine ⟨_, rfl, _, rfl, D, _, q, q.toNat, rfl, rfl, own9.at1, ixq _ rfl, ?_⟩
          have own10 := own9.set (RepAll.set q.toNat own9.hs rd9) (elS _ _ _ own9.al (good d9 hd9))
          exact ⟨D, _, _, _, _, rfl, own10.end.1, own10.end.2, by rw [List.length_set]; exact (show 6 ≤ 7 by decide), own10.al⟩
        · refine ⟨_, rfl, _, _, rfl, rfl, _, rfl, ?_⟩
          refine ite2 (fun e2 => ?_) (fun e2 => ?_)
          · intro va Na Ha na ra
            obtain ⟨Fa, ga, sa, ta⟩ := (Go.refl own4.go.fr).lit' na
            have owna := own4.on ga
            refine ⟨1, rfl, _, rfl, g, _, rfl, dg (owna.go.same _ _ (owna.go.up _ _ hg)) (lg_states n dd cc r), (show 4 ≤ sizeLine by decide), fun pb hpb => ?_⟩
            obtain ⟨Fb, gb, sb, atb⟩ := (Go.refl owna.go.fr).put' (o := .lst [V.int (-1), V.int n, V.bl true, V.non]) hpb
            have ownb := owna.on gb
            intro vc Nc Hc nc rc
            obtain ⟨Fc, gc, sc, tc⟩ := (Go.refl ownb.go.fr).lit' nc
            have ownc := ownb.on gc
            refine ⟨1, rfl, _, rfl, g, _, rfl, dg (ownc.go.same _ _ (ownc.go.up _ _ hg)) (lg_states n dd cc r), (show 4 ≤ sizeLine by decide), fun pd hpd => ?_⟩
            obtain ⟨Fd, gd, sd, atd⟩ := (Go.refl ownc.go.fr).put' (o := .lst [V.int (-1), V.int n, V.bl true, V.non]) hpd
            have ownd := ownc.on gd
            refine ⟨(show 4 ≤ sizeLine by decide), fun p6 hp6 => ?_⟩
            obtain ⟨F6, g6, s6, at6⟩ := (Go.refl ownd.go.fr).put' (o := .lst [va, V.ref pb, vc, V.ref pd]) hp6
            have own6 := ownd.on g6
            intro vB NB HB nB rB
            obtain ⟨FB, gB, sB, tB⟩ := (Go.refl own6.go.fr).lit' nB
            have ownB := own6.on gB
            refine ⟨_, rfl, fun ve Ne He ne re => ?_⟩
            obtain ⟨Fe, ge, se, te⟩ := (Go.refl ownB.go.fr).lit' ne
            have owne := ownB.on ge
            refine ⟨_, rfl, (show 2 ≤ sizeLine by decide), fun pf hpf => ?_⟩
            obtain ⟨Ff, gf, sf, atf⟩ := (Go.refl owne.go.fr).put' (o := .lst [ve, vB]) hpf
            have ownf := owne.on gf
            have u6f := (sB.trans se).trans sf
            refine ⟨p6, pf, _, _, rfl, rfl, ownf.go.same _ _ (u6f _ _ at6), ownf.go.same _ _ atf, (show 4 + 2 ≤ sizeLine by decide), fun p7 hp7 => ?_⟩
            obtain ⟨F7, g7, s7, at7⟩ := (Go.refl ownf.go.fr).put' (o := .lst ([va, V.ref pb, vc, V.ref pd] ++ [ve, vB])) hp7
            have own7 := ownf.on g7
            have all : RepAll K F7 ([va, V.ref pb, vc, V.ref pd] ++ [ve, vB]) [.lst [.non, .str "zz", .int 0], .lst [.int (-1), .int n, .bl true, .non], .lst [.str "zz", .non, .int 5], .lst [.int (-1), .int n, .bl true, .non], .lst [.non, .int 0, .int 1],
                .lst [.lst [.str "+kept"], .tup [.str "?"], .str "", .str "+kept", .tup [.str "zz"], .tup [.str "+kept", .str "zz"], .non, .tup [.lst [.str "+kept"]], .tup [.dct [] []], .tup [.non]]] := by
              have z := u6f.trans s7
              have row : ∀ {F' : Hp} {p : Addr}, F' p = some (.lst [V.int (-1), V.int n, V.bl true, V.non]) → Rep K F' (.ref p) (.lst [.int (-1), .int n, .bl true, .non]) := fun h => ⟨_, _, rfl, h, _, _, rfl, rfl, _, _, rfl, rfl, _, _, rfl, rfl, _, _, rfl, rfl, rfl⟩
              exact ⟨_, _, rfl, Rep.mono (ta.trans ((sb.trans sc).trans ((sd.trans s6).trans z))) _ ra, _, _, rfl, Rep.mono (sc.trans ((sd.trans s6).trans z)) _ (row atb), _, _, rfl, Rep.mono (tc.trans ((sd.trans s6).trans z)) _ rc, _, _, rfl, Rep.mono (s6.trans z) _ (row atd),
                _, _, rfl, Rep.mono (te.trans (sf.trans s7)) _ re, _, _, rfl, Rep.mono (tB.trans ((se.trans sf).trans s7)) _ rB, rfl⟩
            have rows : ∀ d ∈ ([.lst [.non, .str "zz", .int 0], .lst [.int (-1), .int n, .bl true, .non], .lst [.str "zz", .non, .int 5], .lst [.int (-1), .int n, .bl true, .non], .lst [.non, .int 0, .int 1],
                .lst [.lst [.str "+kept"], .tup [.str "?"], .str "", .str "+kept", .tup [.str "zz"], .tup [.str "+kept", .str "zz"], .non, .tup [.lst [.str "+kept"]], .tup [.dct [] []], .tup [.non]]] : List Dat), ∃ es, d = .lst es ∧ es ≠ [] ∧ es.length < 1000 ∧ ∀ e ∈ es, El e := by
              have mid : ∀ e ∈ ([.int (-1), .int n, .bl true, .non] : List Dat), El e := by
                intro e he
                simp only [List.mem_cons, List.not_mem_nil, or_false] at he
                rcases he with rfl | rfl | rfl | rfl
                · exact ⟨fine_of (by decide +kernel), rfl⟩
                · exact el_n wf.n1 wf.n64
                · exact ⟨fine_of (by decide +kernel), rfl⟩
                · exact ⟨fine_of (by decide +kernel), rfl⟩
              intro d hd
              simp only [List.mem_cons, List.not_mem_nil, or_false] at hd
              rcases hd with rfl | rfl | rfl | rfl | rfl | rfl
              · exact ⟨_, rfl, by simp, by decide, el_all (by decide +kernel)⟩
              · exact ⟨_, rfl, by simp, (show 4 < 1000 by decide), mid⟩
              · exact ⟨_, rfl, by simp, by decide, el_all (by decide +kernel)⟩
              · exact ⟨_, rfl, by simp, (show 4 < 1000 by decide), mid⟩
              · exact ⟨_, rfl, by simp, by decide, el_all (by decide +kernel)⟩
              · exact ⟨_, rfl, by simp, by decide, el_all (by decide +kernel)⟩
            generalize hys : [va, V.ref pb, vc, V.ref pd] ++ [ve, vB] = ys at all at7 own7 g7
            have ly : ys.length = 6 := by rw [← hys]; rfl
            have hq' : q.toNat < ys.length := by rw [ly]; exact hq
            have hx : ys[q.toNat]? = some (ys[q.toNat]'hq') := List.getElem?_eq_getElem hq'
            have hat := atI_nat hx
            rw [eq] at hat
            obtain ⟨dx, hdx, rx⟩ := all.get hx
            obtain ⟨es, rfl, ene, elt, eel⟩ := rows dx (List.mem_of_getElem? hdx)
            generalize ys[q.toNat]'hq' = x at hat rx
            obtain ⟨px, xx, rfl, hpx, rxx⟩ := rx
            refine ⟨_, rfl, _, rfl, _, rfl, p7, ys, q, .ref px, rfl, rfl, SqL.of (own7.go.same _ _ at7), hat, b, px, xx, rfl, own7.go.bag, own7.go.same _ _ hpx, own7.go.ne hpx, ?_, ?_, fun v9 H9 hv9 sb9 bt9 => ?_⟩
            · intro z
              rw [z] at rxx
              exact ene (List.length_eq_zero_iff.mp (by rw [← rxx.length]; rfl))
            · rw [rxx.length]
              exact Nat.lt_trans elt (by decide)
            obtain ⟨d9, hd9, rd9⟩ := rep_mem rxx hv9
            have own9 := own7.on ((Go.refl own7.go.fr).took sb9 bt9)
            refine ⟨_, rfl, _, rfl, D, _, q, q.toNat, rfl, rfl, own9.at1, ixq _ rfl, ?_⟩
            have own10 := own9.set (RepAll.set q.toNat own9.hs rd9) (elS _ _ _ own9.al (eel d9 hd9))
            exact ⟨D, _, _, _, _, rfl, own10.end.1, own10.end.2, by rw [List.length_set]; exact (show 6 ≤ 7 by decide), own10.al⟩
          · refine ⟨_, rfl, rfl, _, rfl, ?_⟩
            refine ite2 (fun e3 => ?_) (fun e3 => ?_)
            · intro va Na Ha na ra
              obtain ⟨Fa, ga, sa, ta⟩ := (Go.refl own4.go.fr).lit' na
              have owna := own4.on ga
              obtain ⟨tt, _, rfl, htt, y1, _, rfl, ry1, y2, _, rfl, ry2, rfl⟩ := Rep.mono ta _ ra
              refine ⟨tt, _, rfl, SqT.of (owna.go.same _ _ htt), rfl, _, _, rfl, ?_⟩
              refine ⟨_, rfl, D, _, 2, 2, rfl, rfl, owna.at1, (show ixN 6 2 = some 2 by decide), ?_⟩
              have ownb := owna.set (RepAll.set 2 owna.hs ry1) (elS _ _ _ owna.al (el_all (ds := [.str ""]) (by decide +kernel) _ List.mem_cons_self))
              refine ⟨_, _, rfl, _, rfl, D, _, 5, 5, rfl, rfl, ownb.at1, (show ixN 6 5 = some 5 by decide), rfl, ?_⟩
              have ownc := ownb.set (RepAll.set 5 ownb.hs ry2) (elS _ _ _ ownb.al (el_all (ds := [.tup [.str "+given"]]) (by decide +kernel) _ List.mem_cons_self))
              exact ⟨D, _, _, _, _, rfl, ownc.end.1, ownc.end.2, by rw [List.length_set, List.length_set]; exact (show 6 ≤ 7 by decide), ownc.al⟩
            · refine ⟨_, rfl, rfl, _, rfl, ?_⟩
              refine ite2 (fun e4 => ?_) (fun e4 => ?_)
              · intro va Na Ha na ra
                obtain ⟨Fa, ga, sa, ta⟩ := (Go.refl own4.go.fr).lit' na
                have owna := own4.on ga
                obtain ⟨tt, _, rfl, htt, y1, _, rfl, ry1, y2, _, rfl, ry2, rfl⟩ := Rep.mono ta _ ra
                refine ⟨tt, _, rfl, SqT.of (owna.go.same _ _ htt), rfl, _, _, rfl, ?_⟩
                refine ⟨_, rfl, D, _, 2, 2, rfl, rfl, owna.at1, (show ixN 6 2 = some 2 by decide), ?_⟩
                have ownb := owna.set (RepAll.set 2 owna.hs ry1) (elS _ _ _ owna.al (el_all (ds := [.str ""]) (by decide +kernel) _ List.mem_cons_self))
                refine ⟨_, _, rfl, _, rfl, D, _, 4, 4, rfl, rfl, ownb.at1, (show ixN 6 4 = some 4 by decide), rfl, ?_⟩
                have ownc := ownb.set (RepAll.set 4 ownb.hs ry2) (elS _ _ _ ownb.al (el_all (ds := [.bl true]) (by decide +kernel) _ List.mem_cons_self))
                exact ⟨D, _, _, _, _, rfl, ownc.end.1, ownc.end.2, by rw [List.length_set, List.length_set]; exact (show 6 ≤ 7 by decide), ownc.al⟩
              · obtain ⟨gE, rE⟩ := own4.end
                obtain ⟨F2, g2, s2, tf2⟩ := go_tup fr tf gE
                have rE2 := Rep.mono s2 _ rE
                refine ⟨_, rfl, _, rfl, g, _, rfl, dg (g2.same _ _ (g2.up _ _ hg)) (lg_rules n dd cc r), r, kvs, rfl, .inl (g2.same _ _ (g2.up _ _ hR)), ord_kvs lr.ks, fun p ys hp hys ly => ?_⟩
                obtain ⟨rs1, p1, hys0⟩ := keys_sorted tf2 lr.ks hys
                obtain ⟨F3, g3, s3, at3⟩ := g2.put' (o := .lst ys) hp
                have ly1 : ys.length = rs.length := by
                  rw [hys0.length, List.length_map, List.length_map, p1.length_eq]
                have yne : ys ≠ [] := fun z => rne (List.length_eq_zero_iff.mp (by rw [← ly1, z]; rfl))
                refine ⟨b, p, ys, rfl, g3.bag, upd_same, g3.ne at3, yne, by rw [ly1]; exact Nat.lt_of_le_of_lt wf.rl (by decide), fun kv H5 hkv sb5 bt5 => ?_⟩
                obtain ⟨dk, hdk, rdk⟩ := rep_mem hys0 hkv
                rw [List.map_map] at hdk
                obtain ⟨ru, hru, rfl⟩ := List.mem_map.mp hdk
                have hru := p1.mem_iff.mp hru
                obtain ⟨ak, rfl, hak⟩ := key_rep rdk
                have g5 := g3.took sb5 bt5
                refine ⟨ak, _, rfl, .inr (SqT.of (g5.same _ _ (s3 _ _ hak))), fun p6 hp6 => ?_⟩
                obtain ⟨F6, g6, s6, at6⟩ := g5.put' (o := .lst (ru.key.map kV)) hp6
                have u6 := s3.trans s6
                have aD := (Rep.mono u6 _ rE2)
                obtain ⟨_, xD, eD, hD6, x1, _, rfl, q1, x2, _, rfl, q2, x3, _, rfl, q3, x4, _, rfl, q4, x5, _, rfl, q5, x6, _, rfl, q6', rfl⟩ := aD
                cases eD
                refine ⟨_, rfl, _, rfl, D, [x1, x2, x3, x4, x5, x6], rfl, SqL.of (g6.same _ _ hD6), fun p7 hp7 => ?_⟩
                obtain ⟨F7, g7, s7, at7⟩ := g6.put' (o := .lst (cutV [x1, x2, x3, x4, x5, x6] (some 3) none)) hp7
                refine ⟨p6, p7, _, _, rfl, rfl, g7.same _ _ (s7 _ _ at6), g7.same _ _ at7, (show 3 + 3 ≤ sizeLine by decide), fun p8 hp8 => ?_⟩
                obtain ⟨F8, g8, s8, at8⟩ := g7.put' (o := .lst (ru.key.map kV ++ cutV [x1, x2, x3, x4, x5, x6] (some 3) none)) hp8
                have u8 := s7.trans s8
                refine ⟨p8, F8, [.str ru.door, .int ru.state, .str ru.kind, d4, d5, d6], _, _, rfl, g8, ⟨p8, _, rfl, at8, _, _, rfl, rfl, _, _, rfl, rfl, _, _, rfl, rfl, _, _, rfl, Rep.mono u8 _ q4, _, _, rfl, Rep.mono u8 _ q5, _, _, rfl, Rep.mono u8 _ q6', rfl⟩, (show 6 ≤ 7 by decide), fun e he => ?_⟩
                have re := rule_els wf hru
                simp only [List.mem_cons, List.not_mem_nil, or_false] at he
                rcases he with rfl | rfl | rfl | rfl | rfl | rfl
                · exact re _ (by simp)
                · exact re _ (by simp)
                · exact re _ (by simp)
                · exact els _ (by simp)
                · exact els _ (by simp)
                · exact els _ (by simp)
      · rintro σ H9 ⟨D', F', ds6, o1, o2, rfl, g9, ⟨p9, xs9, e9, h9, r9⟩, l9, el9⟩
        cases e9
        refine ⟨_, rfl, D', xs9, rfl, .inl ⟨SqL.of (g9.same _ _ h9), fun t ht => ?_⟩⟩
        obtain ⟨F10, g10, s10, at10⟩ := g9.put' (o := .tup xs9) ht
        exact k _ (.tup ds6) _ _ g10 ⟨t, _, rfl, at10, RepAll.mono s10 _ r9⟩ (ro_tup l9 el9)
    | _ => exact iteT ⟨_, rfl, b, F0, rfl, fr, odd⟩
end
end K

set_option Elab.async false
set_option linter.all false
set_option maxRecDepth 100000
set_option maxHeartbeats 4000000
/-! Trees, cells, states: the heap told by trees that never change, and by cells of one's own. -/
namespace Wp
open PySem PySem.Spec PyProof.Rows L2 G D L S C Lt
/-- a tree: a datum, a value itself, a list, a tuple, a dict, an instance -/
inductive Tr where
  | d (x : Dat) | v (x : V) | lst (ts : List Tr) | tup (ts : List Tr) | dK (ks : List Key) (ts : List Tr) | dT (ks : List (List Key)) (ts : List Tr) | ins (C : Addr) (ns : List Str) (ts : List Tr)
section
variable (K : PySem.W.Frag) (F : Hp)
mutual
def RepT : V → Tr → Prop
  | v, .d x => Rep K F v x
  | v, .v u => v = u
  | v, .lst ts => ∃ a xs, v = .ref a ∧ F a = some (.lst xs) ∧ RepTs xs ts
  | v, .tup ts => ∃ a xs, v = .ref a ∧ F a = some (.tup xs) ∧ RepTs xs ts
  | v, .dK ks ts => ∃ a kvs, v = .ref a ∧ F a = some (.dK kvs) ∧ kvs.map (·.1) = ks ∧ RepTs (kvs.map (·.2)) ts
  | v, .dT ks ts => ∃ a kvs, v = .ref a ∧ F a = some (.dT kvs) ∧ kvs.map (·.1) = ks ∧ RepTs (kvs.map (·.2)) ts
  | v, .ins C ns ts => ∃ a dx kvs, v = .ref a ∧ F a = some (.ins C dx kvs) ∧ kvs.map (·.1) = ns ∧ RepTs (kvs.map (·.2)) ts
def RepTs : List V → List Tr → Prop
  | vs, [] => vs = []
  | vs, t :: ts => ∃ v r, vs = v :: r ∧ RepT v t ∧ RepTs r ts
end
end
section
variable {K : PySem.W.Frag} {F F' : Hp}
mutual
theorem RepT.mono (h : Same F F') : ∀ (t : Tr) {v : V}, RepT K F v t → RepT K F' v t
  | .d x, _, r => Rep.mono h x r
  | .v _, _, r => r
  | .lst ts, _, ⟨a, xs, e, q, r⟩ => ⟨a, xs, e, h _ _ q, RepTs.mono h ts r⟩
  | .tup ts, _, ⟨a, xs, e, q, r⟩ => ⟨a, xs, e, h _ _ q, RepTs.mono h ts r⟩
  | .dK _ ts, _, ⟨a, kvs, e, q, k, r⟩ => ⟨a, kvs, e, h _ _ q, k, RepTs.mono h ts r⟩
  | .dT _ ts, _, ⟨a, kvs, e, q, k, r⟩ => ⟨a, kvs, e, h _ _ q, k, RepTs.mono h ts r⟩
  | .ins _ _ ts, _, ⟨a, dx, kvs, e, q, k, r⟩ => ⟨a, dx, kvs, e, h _ _ q, k, RepTs.mono h ts r⟩
theorem RepTs.mono (h : Same F F') : ∀ (ts : List Tr) {vs : List V}, RepTs K F vs ts → RepTs K F' vs ts
  | [], _, r => r
  | t :: ts, _, ⟨v, r, e, q, s⟩ => ⟨v, r, e, RepT.mono h t q, RepTs.mono h ts s⟩
end
theorem RepTs.length : ∀ {ts : List Tr} {vs : List V}, RepTs K F vs ts → vs.length = ts.length
  | [], _, r => by cases (show _ = [] from r); rfl
  | _ :: ts, _, ⟨v, r, e, _, t⟩ => by subst e; simp [RepTs.length t]
theorem RepTs.get : ∀ {ts : List Tr} {vs : List V} {i : Nat} {v : V}, RepTs K F vs ts → vs[i]? = some v → ∃ t, ts[i]? = some t ∧ RepT K F v t
  | [], _, i, v, r, e => by cases (show _ = [] from r); simp at e
  | d :: ds, _, 0, v, ⟨w, r, e', q, t⟩, e => by subst e'; simp at e; subst e; exact ⟨d, rfl, q⟩
  | d :: ds, _, i + 1, v, ⟨w, r, e', q, t⟩, e => by
    subst e'
    obtain ⟨d', h1, h2⟩ := RepTs.get (i := i) (v := v) t (by simpa using e)
    exact ⟨d', by simpa using h1, h2⟩
theorem RepTs.nth : ∀ {ts : List Tr} {vs : List V} {i : Nat} {d : Tr}, RepTs K F vs ts → ts[i]? = some d → ∃ v, vs[i]? = some v ∧ RepT K F v d
  | [], _, i, d, r, e => by simp at e
  | d :: ds, _, 0, d', ⟨w, r, e', q, t⟩, e => by subst e'; simp at e; subst e; exact ⟨w, rfl, q⟩
  | d :: ds, _, i + 1, d', ⟨w, r, e', q, t⟩, e => by
    subst e'
    obtain ⟨v, h1, h2⟩ := RepTs.nth (i := i) (d := d') t (by simpa using e)
    exact ⟨v, by simpa using h1, h2⟩
theorem RepTs.append : ∀ {ds es : List Tr} {vs us : List V}, RepTs K F vs ds → RepTs K F us es → RepTs K F (vs ++ us) (ds ++ es)
  | [], _, _, _, r, q => by cases (show _ = [] from r); exact q
  | _ :: ds, _, _, _, ⟨v, r, e, a, t⟩, q => by subst e; exact ⟨v, _, rfl, a, RepTs.append t q⟩
theorem RepTs.one {v : V} {d : Tr} (h : RepT K F v d) : RepTs K F [v] [d] := ⟨v, [], rfl, h, rfl⟩
theorem RepTs.set : ∀ {ds : List Tr} {vs : List V} (i : Nat) {v : V} {d : Tr}, RepTs K F vs ds → RepT K F v d → RepTs K F (vs.set i v) (ds.set i d)
  | [], _, i, v, d, r, q => by cases (show _ = [] from r); exact rfl
  | _ :: ds, _, 0, v, d, ⟨w, r, e, a, t⟩, q => by subst e; exact ⟨v, r, rfl, q, t⟩
  | _ :: ds, _, i + 1, v, d, ⟨w, r, e, a, t⟩, q => by subst e; exact ⟨w, _, rfl, a, RepTs.set i t q⟩
theorem RepTs.take : ∀ {ds : List Tr} {vs : List V} (n : Nat), RepTs K F vs ds → RepTs K F (vs.take n) (ds.take n)
  | [], _, n, r => by cases (show _ = [] from r); simp; exact rfl
  | _ :: ds, _, 0, ⟨w, r, e, a, t⟩ => by subst e; exact rfl
  | _ :: ds, _, n + 1, ⟨w, r, e, a, t⟩ => by subst e; exact ⟨w, _, rfl, a, RepTs.take n t⟩
theorem RepTs.drop : ∀ {ds : List Tr} {vs : List V} (n : Nat), RepTs K F vs ds → RepTs K F (vs.drop n) (ds.drop n)
  | [], _, n, r => by cases (show _ = [] from r); simp; exact rfl
  | _ :: ds, _, 0, ⟨w, r, e, a, t⟩ => by subst e; exact ⟨w, r, rfl, a, t⟩
  | _ :: ds, _, n + 1, ⟨w, r, e, a, t⟩ => by subst e; exact RepTs.drop n t
/-- data alone -/
theorem RepTs.all : ∀ {ds : List Dat} {vs : List V}, RepTs K F vs (ds.map .d) → RepAll K F vs ds
  | [], _, r => r
  | d :: ds, _, ⟨v, r, e, q, t⟩ => ⟨v, r, e, q, RepTs.all t⟩
theorem RepTs.of : ∀ {ds : List Dat} {vs : List V}, RepAll K F vs ds → RepTs K F vs (ds.map .d)
  | [], _, r => r
  | d :: ds, _, ⟨v, r, e, q, t⟩ => ⟨v, r, e, q, RepTs.of t⟩
theorem RepT.lst_d {ds : List Dat} {v : V} (h : RepT K F v (.lst (ds.map .d))) : RepT K F v (.d (.lst ds)) := let ⟨a, xs, e, q, r⟩ := h; ⟨a, xs, e, q, r.all⟩
theorem RepT.d_lst {ds : List Dat} {v : V} (h : RepT K F v (.d (.lst ds))) : RepT K F v (.lst (ds.map .d)) := let ⟨a, xs, e, q, r⟩ := h; ⟨a, xs, e, q, .of r⟩
theorem RepT.tup_d {ds : List Dat} {v : V} (h : RepT K F v (.tup (ds.map .d))) : RepT K F v (.d (.tup ds)) := let ⟨a, xs, e, q, r⟩ := h; ⟨a, xs, e, q, r.all⟩
theorem RepT.d_tup {ds : List Dat} {v : V} (h : RepT K F v (.d (.tup ds))) : RepT K F v (.tup (ds.map .d)) := let ⟨a, xs, e, q, r⟩ := h; ⟨a, xs, e, q, .of r⟩
end
/-- F lies in H; the dicts with tuple keys at lk may be locked there -/
def Sub (lk : List Addr) (F H : Hp) : Prop := ∀ b o, F b = some o → H b = some o ∨ b ∈ lk ∧ ∃ kvs ob, o = .dT kvs ∧ H b = some (.frz ob o)
theorem Sub.free {lk : List Addr} {F H : Hp} (s : Sub lk F H) {p : Addr} (h : H p = none) : F p = none := by
  cases q : F p with
  | none => rfl
  | some o =>
    rcases s p o q with e | ⟨_, _, _, _, e⟩ <;> rw [h] at e <;> cases e
theorem Sub.there {lk : List Addr} {F H : Hp} (s : Sub lk F H) {p : Addr} {o : HO} (h : F p = some o) : ∃ u, H p = some u := by
  rcases s p o h with e | ⟨_, _, _, _, e⟩ <;> exact ⟨_, e⟩
theorem Sub.at {lk : List Addr} {F H : Hp} (s : Sub lk F H) {p : Addr} {o : HO} (h : F p = some o) (n : ∀ kvs, o ≠ .dT kvs := by intro _ z; cases z) : H p = some o := by
  rcases s p o h with e | ⟨_, kvs, _, z, _⟩
  · exact e
  · exact absurd z (n kvs)
theorem Sub.rd {lk : List Addr} {F H : Hp} (s : Sub lk F H) {p : Addr} {o : HO} (h : F p = some o) : Rd H p o := by
  rcases s p o h with e | ⟨_, kvs, ob, z, e⟩
  · exact .inl e
  · exact .inr ⟨ob, e⟩
theorem Sub.of {lk : List Addr} {F H : Hp} (s : Same F H) : Sub lk F H := fun b o e => .inl (s b o e)
theorem Sub.same {F H : Hp} (s : Sub [] F H) : Same F H := fun b o e => (s b o e).elim id fun z => (nomatch z.1)
section
variable {K : PySem.W.Frag} {F H : Hp} {lk : List Addr}
mutual
theorem Rep.sub (s : Sub lk F H) : ∀ (d : Dat) {v : V}, Rep K F v d → Rep K H v d
  | .non, _, r => r
  | .bl _, _, r => r
  | .int _, _, r => r
  | .str _, _, r => r
  | .lst ds, _, ⟨a, xs, e, q, r⟩ => ⟨a, xs, e, s.at q, RepAll.sub s ds r⟩
  | .tup ds, _, ⟨a, xs, e, q, r⟩ => ⟨a, xs, e, s.at q, RepAll.sub s ds r⟩
  | .dct _ ds, _, ⟨a, kvs, e, q, k, r⟩ => ⟨a, kvs, e, s.at q, k, RepAll.sub s ds r⟩
  | .obj _ _, _, ⟨e, o, dx, fs, q⟩ => ⟨e, o, dx, fs, s.at q⟩
theorem RepAll.sub (s : Sub lk F H) : ∀ (ds : List Dat) {vs : List V}, RepAll K F vs ds → RepAll K H vs ds
  | [], _, r => r
  | d :: ds, _, ⟨v, r, e, q, t⟩ => ⟨v, r, e, Rep.sub s d q, RepAll.sub s ds t⟩
end
end
/-- what stands in a cell of one's own -/
inductive Cell where
  | bag | lst (ts : List Tr) | dK (ks : List Key) (ts : List Tr) | dT (ks : List (List Key)) (ts : List Tr) | ins (C : Addr) (ns : List Str) (ts : List Tr)
def CellOk (K : PySem.W.Frag) (F H : Hp) (a : Addr) : Cell → Prop
  | .bag => ∃ l o, BagL H a l ∧ F l = some o
  | .lst ts => ∃ xs, H a = some (.lst xs) ∧ RepTs K F xs ts
  | .dK ks ts => ∃ kvs, H a = some (.dK kvs) ∧ kvs.map (·.1) = ks ∧ RepTs K F (kvs.map (·.2)) ts
  | .dT ks ts => ∃ kvs, H a = some (.dT kvs) ∧ kvs.map (·.1) = ks ∧ RepTs K F (kvs.map (·.2)) ts
  | .ins C ns ts => ∃ dx kvs, H a = some (.ins C dx kvs) ∧ kvs.map (·.1) = ns ∧ RepTs K F (kvs.map (·.2)) ts
abbrev Os := List (Addr × Cell)
abbrev adr (os : Os) : List Addr := os.map (·.1)
section
variable {K : PySem.W.Frag} {F H F' H' : Hp} {a : Addr} {c : Cell}
theorem CellOk.some (h : CellOk K F H a c) : ∃ o, H a = some o ∧ ∀ xs, o ≠ .tup xs := by
  cases c with
  | bag => obtain ⟨l, o, ⟨c0, c1, c2, ms, q, _⟩, _⟩ := h; exact ⟨_, q, fun _ z => by cases z⟩
  | lst ts => obtain ⟨xs, q, _⟩ := h; exact ⟨_, q, fun _ z => by cases z⟩
  | dK ks ts => obtain ⟨xs, q, _⟩ := h; exact ⟨_, q, fun _ z => by cases z⟩
  | dT ks ts => obtain ⟨xs, q, _⟩ := h; exact ⟨_, q, fun _ z => by cases z⟩
  | ins C ns ts => obtain ⟨dx, xs, q, _⟩ := h; exact ⟨_, q, fun _ z => by cases z⟩
theorem CellOk.keep {lk lk' : List Addr} (h : CellOk K F H a c) (e : ∀ o, H a = .some o → H' a = .some o) (up : Same F F') (s : Sub lk F H) (s' : Sub lk' F' H') : CellOk K F' H' a c := by
  cases c with
  | bag =>
    obtain ⟨l, o, ⟨c0, c1, c2, ms, q, q2, r⟩, f⟩ := h
    refine ⟨l, o, ⟨c0, c1, c2, ms, e _ q, ?_, r⟩, up _ _ f⟩
    rcases s _ _ f with z | ⟨_, _, _, rfl, z⟩
    · rw [q2] at z; cases z
      exact s'.at (up _ _ f)
    · rw [q2] at z; cases z
  | lst ts => obtain ⟨xs, q, r⟩ := h; exact ⟨xs, e _ q, RepTs.mono up _ r⟩
  | dK ks ts => obtain ⟨xs, q, k, r⟩ := h; exact ⟨xs, e _ q, k, RepTs.mono up _ r⟩
  | dT ks ts => obtain ⟨xs, q, k, r⟩ := h; exact ⟨xs, e _ q, k, RepTs.mono up _ r⟩
  | ins C ns ts => obtain ⟨dx, xs, q, k, r⟩ := h; exact ⟨dx, xs, e _ q, k, RepTs.mono up _ r⟩
end
/-- a state: what never changes, the heap, the cells -/
structure Wo (K : PySem.W.Frag) (lk : List Addr) (F H : Hp) (os : Os) : Prop where
  sub : Sub lk F H
  out : ∀ c ∈ os, F c.1 = none
  ok : ∀ c ∈ os, CellOk K F H c.1 c.2
  nd : (adr os).Nodup
theorem Wo.some {K : PySem.W.Frag} {lk : List Addr} {F H : Hp} {os : Os} (w : Wo K lk F H os) {a : Addr} (h : a ∈ adr os) : ∃ o, H a = .some o ∧ ∀ xs, o ≠ .tup xs := by
  obtain ⟨c, hc, rfl⟩ := List.mem_map.mp h
  exact (w.ok c hc).some
theorem Wo.none {K : PySem.W.Frag} {lk : List Addr} {F H : Hp} {os : Os} (w : Wo K lk F H os) {a : Addr} (h : a ∈ adr os) : F a = .none := by
  obtain ⟨c, hc, rfl⟩ := List.mem_map.mp h
  exact w.out c hc
/-- what a step leaves as it was -/
structure Stp (F H : Hp) (os : Os) (F' H' : Hp) (os' : Os) : Prop where
  up : Same F F'
  but : ∀ y o, y ∉ adr os → H y = some o → H' y = some o
  new : ∀ y o, F' y = some o → F y = some o ∨ H y = none ∨ (∃ xs, o = .tup xs) ∨ y ∈ adr os
  adr' : ∀ a ∈ adr os', a ∈ adr os ∨ H a = none
section
variable {F H F1 H1 F2 H2 : Hp} {os os1 os2 : Os}
theorem Stp.refl : Stp F H os F H os := ⟨.refl _, fun _ _ _ e => e, fun _ _ e => .inl e, fun _ h => .inl h⟩
theorem Stp.trans (a : Stp F H os F1 H1 os1) (b : Stp F1 H1 os1 F2 H2 os2) : Stp F H os F2 H2 os2 := by
  have none : ∀ y, H1 y = none → H y = none ∨ y ∈ adr os := fun y h => by
    by_cases q : y ∈ adr os
    · exact .inr q
    · cases e : H y with
      | none => exact .inl rfl
      | some o => rw [a.but y o q e] at h; cases h
  refine ⟨a.up.trans b.up, fun y o h e => ?_, fun y o e => ?_, fun y h => ?_⟩
  · refine b.but y o (fun z => ?_) (a.but y o h e)
    rcases a.adr' y z with z | z
    · exact h z
    · rw [z] at e; cases e
  · rcases b.new y o e with z | z | z | z
    · exact a.new y o z
    · rcases none y z with q | q
      · exact .inr (.inl q)
      · exact .inr (.inr (.inr q))
    · exact .inr (.inr (.inl z))
    · rcases a.adr' y z with q | q
      · exact .inr (.inr (.inr q))
      · exact .inr (.inl q)
  · rcases b.adr' y h with z | z
    · exact a.adr' y z
    · exact (none y z).symm
end
/-- where a def began -/
structure Ini where
  lk : List Addr
  F : Hp
  H : Hp
  os : Os
structure Now (K : PySem.W.Frag) (I : Ini) (F H : Hp) (os : Os) : Prop where
  wo : Wo K I.lk F H os
  si : Stp I.F I.H I.os F H os
structure Nxt (K : PySem.W.Frag) (I : Ini) (F H : Hp) (os : Os) (F' H' : Hp) (os' : Os) : Prop where
  now : Now K I F' H' os'
  st : Stp F H os F' H' os'
section
variable {K : PySem.W.Frag} {I : Ini} {F H F1 H1 F2 H2 : Hp} {os os1 os2 : Os}
theorem Now.nxt (n : Now K I F H os) (w : Wo K I.lk F1 H1 os1) (s : Stp F H os F1 H1 os1) : Nxt K I F H os F1 H1 os1 := ⟨⟨w, n.si.trans s⟩, s⟩
theorem Now.self (n : Now K I F H os) : Nxt K I F H os F H os := ⟨n, .refl⟩
theorem Nxt.trans (a : Nxt K I F H os F1 H1 os1) (b : Nxt K I F1 H1 os1 F2 H2 os2) : Nxt K I F H os F2 H2 os2 := ⟨b.now, a.st.trans b.st⟩
theorem Nxt.up (a : Nxt K I F H os F1 H1 os1) : Same F F1 := a.st.up
theorem Now.sub (n : Now K I F H os) : Sub I.lk F H := n.wo.sub
/-- a new thing that is never changed -/
theorem Now.put (n : Now K I F H os) {p : Addr} {o : HO} (hp : H p = none) : Nxt K I F H os (upd F p o) (upd H p o) os ∧ Same F (upd F p o) := by
  have fp := n.sub.free hp
  have up : Same F (upd F p o) := same_upd fp
  have sb : Sub I.lk (upd F p o) (upd H p o) := fun y u e => by
    by_cases q : y = p
    · subst q; rw [upd_same] at e ⊢; exact .inl e
    · rw [upd_ne q] at e ⊢; exact n.sub y u e
  have ne : ∀ a ∈ adr os, a ≠ p := fun a h z => by
    obtain ⟨o', e, _⟩ := n.wo.some h
    rw [z, hp] at e; cases e
  refine ⟨n.nxt ⟨sb, fun c h => ?_, fun c h => ?_, n.wo.nd⟩ ⟨up, fun y u _ e => ?_, fun y u e => ?_, fun a h => .inl h⟩, up⟩
  · rw [upd_ne (ne c.1 (List.mem_map_of_mem h))]; exact n.wo.out c h
  · exact (n.wo.ok c h).keep (fun o e => by rw [upd_ne (ne c.1 (List.mem_map_of_mem h))]; exact e) up n.sub sb
  · rw [upd_ne (ne_of_none e hp)]; exact e
  · by_cases q : y = p
    · subst q; exact .inr (.inl hp)
    · rw [upd_ne q] at e; exact .inl e
/-- the heap alone has grown -/
theorem Now.grow (n : Now K I F H os) (s : Same H H1) : Nxt K I F H os F H1 os := by
  have sb : Sub I.lk F H1 := fun y u e => by
    rcases n.sub y u e with z | ⟨l, k, ob, z, q⟩
    · exact .inl (s _ _ z)
    · exact .inr ⟨l, k, ob, z, s _ _ q⟩
  exact n.nxt ⟨sb, n.wo.out, fun c h => (n.wo.ok c h).keep (fun o e => s _ _ e) (.refl _) n.sub sb, n.wo.nd⟩ ⟨.refl _, fun y u _ e => s _ _ e, fun y u e => .inl e, fun a h => .inl h⟩
/-- what is new is never changed -/
theorem Now.ext (n : Now K I F H os) (sF : Same F F1) (s1 : Sub I.lk F1 H1) (sH : Same H H1) (nw : ∀ y o, F1 y = some o → F y = some o ∨ H y = none ∨ ∃ xs, o = .tup xs) : Nxt K I F H os F1 H1 os := by
  have out : ∀ a ∈ adr os, F1 a = none := fun a h => by
    obtain ⟨o', e, nt⟩ := n.wo.some h
    cases q : F1 a with
    | none => rfl
    | some u =>
      rcases nw a u q with z | z | ⟨xs, rfl⟩
      · rw [n.wo.none h] at z; cases z
      · rw [e] at z; cases z
      · have z := s1.at q
        rw [sH _ _ e] at z
        exact absurd (Option.some.inj z) (nt xs)
  refine n.nxt ⟨s1, fun c h => out _ (List.mem_map_of_mem h), fun c h => (n.wo.ok c h).keep (fun o e => sH _ _ e) sF n.sub s1, n.wo.nd⟩ ⟨sF, fun y u _ e => sH _ _ e, fun y u e => ?_, fun a h => .inl h⟩
  rcases nw y u e with z | z | z
  · exact .inl z
  · exact .inr (.inl z)
  · exact .inr (.inr (.inl z))
theorem Now.lit (n : Now K I F H os) {N : Hp} (l : New H N H1) : Nxt K I F H os (uni F N) H1 os ∧ Same F (uni F N) ∧ Same N (uni F N) := by
  have s2 : Same N (uni F N) := uni_r fun x o e => n.sub.free (l.dis x o e)
  refine ⟨n.ext uni_l (fun y u e => ?_) l.old fun y u e => ?_, uni_l, s2⟩
  · unfold uni at e
    cases q : F y with
    | some w =>
      rw [q] at e
      cases e
      rcases n.sub _ _ q with z | ⟨hl, k, ob, z, w⟩
      · exact .inl (l.old _ _ z)
      · exact .inr ⟨hl, k, ob, z, l.old _ _ w⟩
    | none => rw [q] at e; exact .inl (l.sub _ _ e)
  · unfold uni at e
    cases q : F y with
    | some w => rw [q] at e; exact .inl e
    | none => rw [q] at e; exact .inr (.inl (l.dis _ _ e))
/-- a tuple of the heap never changes -/
theorem Now.tup (n : Now K I F H os) {p : Addr} {xs : List V} (h : H p = some (.tup xs)) : ∃ F1, Nxt K I F H os F1 H os ∧ Same F F1 ∧ F1 p = some (.tup xs) := by
  cases q : F p with
  | some o =>
    refine ⟨F, n.self, .refl _, ?_⟩
    rcases n.sub _ _ q with z | ⟨_, _, _, _, z⟩
    · rw [q, ← z, h]
    · rw [h] at z; cases z
  | none =>
    refine ⟨upd F p (.tup xs), n.ext (same_upd q) (fun y u e => ?_) (.refl _) fun y u e => ?_, same_upd q, upd_same⟩
    · by_cases z : y = p
      · subst z; rw [upd_same] at e; cases e; exact .inl h
      · rw [upd_ne z] at e; exact n.sub _ _ e
    · by_cases z : y = p
      · subst z; rw [upd_same] at e; cases e; exact .inr (.inr ⟨_, rfl⟩)
      · rw [upd_ne z] at e; exact .inl e
/-- a new cell -/
theorem Now.own (n : Now K I F H os) {p : Addr} {o : HO} {c : Cell} (hp : H p = none) (ok : CellOk K F (upd H p o) p c) : Nxt K I F H os F (upd H p o) (os ++ [(p, c)]) := by
  have g := n.grow (same_upd (o := o) hp)
  have np : p ∉ adr os := fun h => by
    obtain ⟨o', e, _⟩ := n.wo.some h
    rw [hp] at e; cases e
  have ea : adr (os ++ [(p, c)]) = adr os ++ [p] := by simp
  refine n.nxt ⟨g.now.sub, fun c' h => ?_, fun c' h => ?_, ?_⟩ ⟨.refl _, fun y u _ e => by rw [upd_ne (ne_of_none e hp)]; exact e, fun y u e => .inl e, fun a h => ?_⟩
  · rcases List.mem_append.mp h with h | h
    · exact n.wo.out c' h
    · rw [List.mem_singleton] at h; subst h; exact n.sub.free hp
  · rcases List.mem_append.mp h with h | h
    · exact g.now.wo.ok c' h
    · rw [List.mem_singleton] at h; subst h; exact ok
  · rw [ea]
    refine List.nodup_append.mpr ⟨n.wo.nd, by simp, fun a h b h' => ?_⟩
    rw [List.mem_singleton] at h'
    subst h'
    exact fun z => np (z ▸ h)
  · rw [ea] at h
    rcases List.mem_append.mp h with h | h
    · exact .inl h
    · rw [List.mem_singleton] at h; subst h; exact .inr hp
theorem mem_set {α : Type} : ∀ {l : List α} {j : Nat} {x y : α}, y ∈ l.set j x → y = x ∨ ∃ i, i ≠ j ∧ l[i]? = some y := by
  intro l j x y h
  obtain ⟨i, hi⟩ := List.mem_iff_getElem?.mp h
  by_cases q : i = j
  · subst q
    rw [List.getElem?_set_self'] at hi
    cases e : l[i]? with
    | none => rw [e] at hi; cases hi
    | some z => rw [e] at hi; cases hi; exact .inl rfl
  · rw [List.getElem?_set_ne (Ne.symm q)] at hi
    exact .inr ⟨i, q, hi⟩
theorem nd_ne {l : List (Addr × Cell)} (nd : (adr l).Nodup) {i j : Nat} {a b : Addr × Cell} (hi : l[i]? = some a) (hj : l[j]? = some b) (n : i ≠ j) : a.1 ≠ b.1 := fun z => by
  have h1 : (adr l)[i]? = some a.1 := by simp [hi]
  have h2 : (adr l)[j]? = some a.1 := by simp [hj, z]
  obtain ⟨p1, e1⟩ := List.getElem?_eq_some_iff.mp h1
  obtain ⟨p2, e2⟩ := List.getElem?_eq_some_iff.mp h2
  exact n ((List.getElem_inj nd).mp (e1.trans e2.symm))
theorem adr_set {l : Os} {j : Nat} {p : Addr} {c c' : Cell} (h : l[j]? = some (p, c)) : adr (l.set j (p, c')) = adr l := by
  apply List.ext_getElem?
  intro i
  rw [List.getElem?_map, List.getElem?_map]
  by_cases q : i = j
  · subst q
    rw [List.getElem?_set_self', h]; rfl
  · rw [List.getElem?_set_ne (Ne.symm q)]
/-- a cell is written -/
theorem Now.write (n : Now K I F H os) {j : Nat} {p : Addr} {c c' : Cell} {o : HO} (hj : os[j]? = some (p, c)) (ok : CellOk K F (upd H p o) p c') : Nxt K I F H os F (upd H p o) (os.set j (p, c')) := by
  have hp : p ∈ adr os := List.mem_map.mpr ⟨_, List.mem_of_getElem? hj, rfl⟩
  have fp := n.wo.none hp
  have sb : Sub I.lk F (upd H p o) := fun y u e => by
    rw [upd_ne (fun z => by rw [z, fp] at e; cases e)]
    exact n.sub y u e
  refine n.nxt ⟨sb, fun c2 h => ?_, fun c2 h => ?_, by rw [adr_set hj]; exact n.wo.nd⟩ ⟨.refl _, fun y u ny e => ?_, fun y u e => .inl e, fun a h => .inl (by rw [adr_set hj] at h; exact h)⟩
  · rcases mem_set h with rfl | ⟨i, ni, hi⟩
    · exact fp
    · exact n.wo.out _ (List.mem_of_getElem? hi)
  · rcases mem_set h with rfl | ⟨i, ni, hi⟩
    · exact ok
    · refine (n.wo.ok _ (List.mem_of_getElem? hi)).keep (fun u e => ?_) (.refl _) n.sub sb
      rw [upd_ne (nd_ne n.wo.nd hi hj ni)]; exact e
  · rw [upd_ne (fun z => ny (by rw [z]; exact hp))]; exact e
/-- a cell is changed no more -/
theorem Now.freeze (n : Now K I F H os) {j : Nat} {p : Addr} {c : Cell} {o : HO} (hj : os[j]? = some (p, c)) (hp : H p = some o) : Nxt K I F H os (upd F p o) H (os.eraseIdx j) ∧ Same F (upd F p o) := by
  have mp : p ∈ adr os := List.mem_map.mpr ⟨_, List.mem_of_getElem? hj, rfl⟩
  have fp := n.wo.none mp
  have sb : Sub I.lk (upd F p o) H := fun y u e => by
    by_cases q : y = p
    · subst q; rw [upd_same] at e; cases e; exact .inl hp
    · rw [upd_ne q] at e; exact n.sub y u e
  have mem : ∀ c2 ∈ os.eraseIdx j, c2 ∈ os ∧ c2.1 ≠ p := fun c2 h => by
    obtain ⟨i, hi⟩ := List.mem_iff_getElem?.mp h
    rw [List.getElem?_eraseIdx] at hi
    split at hi
    · exact ⟨List.mem_of_getElem? hi, nd_ne n.wo.nd hi hj (by omega)⟩
    · exact ⟨List.mem_of_getElem? hi, nd_ne n.wo.nd hi hj (by omega)⟩
  refine ⟨n.nxt ⟨sb, fun c2 h => ?_, fun c2 h => ?_, ?_⟩ ⟨same_upd fp, fun y u _ e => e, fun y u e => ?_, fun a h => ?_⟩, same_upd fp⟩
  · rw [upd_ne (mem c2 h).2]; exact n.wo.out _ (mem c2 h).1
  · exact (n.wo.ok _ (mem c2 h).1).keep (fun u e => e) (same_upd fp) n.sub sb
  · show ((os.eraseIdx j).map (·.1)).Nodup
    have : (os.eraseIdx j).map (·.1) = (adr os).eraseIdx j := by
      apply List.ext_getElem?
      intro i
      rw [List.getElem?_map, List.getElem?_eraseIdx, List.getElem?_eraseIdx]
      split <;> simp
    rw [this]
    exact n.wo.nd.sublist (List.eraseIdx_sublist _ _)
  · by_cases q : y = p
    · subst q; exact .inr (.inr (.inr mp))
    · rw [upd_ne q] at e; exact .inl e
  · obtain ⟨c2, h2, rfl⟩ := List.mem_map.mp h
    exact .inl (List.mem_map_of_mem (mem c2 h2).1)
/-- a part of the cells goes a step; the others stay -/
theorem Now.frame {oi ot oi' : Os} (n : Now K I F H os) (pm : os.Perm (oi ++ ot)) (s : Stp F H oi F1 H1 oi') (w : Wo K I.lk F1 H1 oi') : Nxt K I F H os F1 H1 (oi' ++ ot) := by
  have pa : (adr os).Perm (adr oi ++ adr ot) := by
    have := pm.map (·.1)
    rwa [List.map_append] at this
  have nd := pa.nodup_iff.mp n.wo.nd
  obtain ⟨nd1, nd2, dj⟩ := List.nodup_append.mp nd
  have mr : ∀ {c}, c ∈ ot → c ∈ os := fun h => pm.mem_iff.mpr (List.mem_append.mpr (.inr h))
  have ar : ∀ {a}, a ∈ adr ot → a ∈ adr os := fun h => pa.mem_iff.mpr (List.mem_append.mpr (.inr h))
  have ai : ∀ {a}, a ∈ adr oi → a ∈ adr os := fun h => pa.mem_iff.mpr (List.mem_append.mpr (.inl h))
  have nin : ∀ {a}, a ∈ adr ot → a ∉ adr oi := fun h z => dj _ z _ h rfl
  have ea : adr (oi' ++ ot) = adr oi' ++ adr ot := List.map_append
  refine n.nxt ⟨w.sub, fun c h => ?_, fun c h => ?_, ?_⟩ ⟨s.up, fun y o h e => s.but y o (fun z => h (ai z)) e, fun y o e => ?_, fun a h => ?_⟩
  · rcases List.mem_append.mp h with h | h
    · exact w.out c h
    · have ha : c.1 ∈ adr ot := List.mem_map_of_mem h
      obtain ⟨u, hu, nt⟩ := n.wo.some (ar ha)
      cases q : F1 c.1 with
      | none => rfl
      | some o =>
        rcases s.new _ _ q with z | z | ⟨xs, rfl⟩ | z
        · rw [n.wo.out c (mr h)] at z; cases z
        · rw [hu] at z; cases z
        · have z := w.sub.at q
          rw [s.but _ _ (nin ha) hu] at z
          exact absurd (Option.some.inj z) (nt xs)
        · exact absurd z (nin ha)
  · rcases List.mem_append.mp h with h | h
    · exact w.ok c h
    · exact (n.wo.ok c (mr h)).keep (fun o e => s.but _ _ (nin (List.mem_map_of_mem h)) e) s.up n.sub w.sub
  · rw [ea]
    refine List.nodup_append.mpr ⟨w.nd, nd2, fun a h b h' z => ?_⟩
    subst z
    rcases s.adr' a h with q | q
    · exact nin h' q
    · obtain ⟨u, hu, _⟩ := n.wo.some (ar h')
      rw [q] at hu; cases hu
  · rcases s.new y o e with z | z | z | z
    · exact .inl z
    · exact .inr (.inl z)
    · exact .inr (.inr (.inl z))
    · exact .inr (.inr (.inr (ai z)))
  · rw [ea] at h
    rcases List.mem_append.mp h with h | h
    · rcases s.adr' a h with q | q
      · exact .inl (ai q)
      · exact .inr q
    · exact .inl (ar h)
/-- fewer cells -/
theorem Now.less {ot : Os} (n : Now K I F H (os ++ ot)) : Now K I F H os := by
  refine ⟨⟨n.sub, fun c h => n.wo.out c (List.mem_append_left _ h), fun c h => n.wo.ok c (List.mem_append_left _ h), ?_⟩, ⟨n.si.up, n.si.but, n.si.new, fun a h => n.si.adr' a ?_⟩⟩
  · have : (adr os ++ adr ot).Nodup := by have := n.wo.nd; rwa [adr, List.map_append] at this
    exact (List.nodup_append.mp this).1
  · rw [adr, List.map_append]; exact List.mem_append_left _ h
/-- within fewer cells a step is gone: so it is with all -/
theorem Now.wide {ot os' : Os} (n : Now K I F H (os ++ ot)) (m : Nxt K I F H os F1 H1 os') : Nxt K I F H (os ++ ot) F1 H1 (os' ++ ot) := n.frame (.refl _) m.st m.now.wo
theorem Now.perm (n : Now K I F H os) (pm : os.Perm os1) : Nxt K I F H os F H os1 := by
  have pa : (adr os).Perm (adr os1) := pm.map (·.1)
  exact n.nxt ⟨n.sub, fun c h => n.wo.out c (pm.mem_iff.mpr h), fun c h => n.wo.ok c (pm.mem_iff.mpr h), pa.nodup_iff.mp n.wo.nd⟩ ⟨.refl _, fun _ _ _ e => e, fun _ _ e => .inl e, fun a h => .inl (pa.mem_iff.mpr h)⟩
end
end Wp

set_option Elab.async false
set_option linter.all false
set_option maxRecDepth 100000
set_option maxHeartbeats 4000000
/-! Judgements over trees and cells, and the rules of the constructs. -/
namespace Wp
open PySem PySem.Spec PyProof.Rows L2 G D L S C Lt
abbrev Gm := List (Option Tr)
structure EnvOk (K : PySem.W.Frag) (F : Hp) (Γ : Gm) (σ : L2.St) : Prop where
  len : σ.length = Γ.length
  at' : ∀ (i : Nat) (t : Tr), Γ[i]? = some (some t) → ∃ v, σ[i]? = some (some v) ∧ RepT K F v t
theorem EnvOk.mono {K : PySem.W.Frag} {F F' : Hp} {Γ : Gm} {σ : L2.St} (e : EnvOk K F Γ σ) (s : Same F F') : EnvOk K F' Γ σ :=
  ⟨e.len, fun i t h => let ⟨v, a, b⟩ := e.at' i t h; ⟨v, a, RepT.mono s _ b⟩⟩
theorem EnvOk.set {K : PySem.W.Frag} {F : Hp} {Γ : Gm} {σ : L2.St} (e : EnvOk K F Γ σ) (i : Nat) {v : V} {t : Tr} (r : RepT K F v t) : EnvOk K F (Γ.set i (some t)) (σ.set i (some v)) := by
  refine ⟨by simp [e.len], fun j u h => ?_⟩
  by_cases q : j = i
  · subst q
    rw [List.getElem?_set_self'] at h ⊢
    cases z : Γ[j]? with
    | none => rw [z] at h; cases h
    | some w =>
      rw [z] at h
      cases h
      have : j < σ.length := by rw [e.len]; exact (List.getElem?_eq_some_iff.mp z).1
      rw [List.getElem?_eq_getElem this]
      exact ⟨v, rfl, r⟩
  · rw [List.getElem?_set_ne (Ne.symm q)] at h ⊢
    exact e.at' j u h
structure Po where
  nx : Gm → Os → Prop
  rt : Os → Tr → Prop
  bk : Gm → Os → Prop := fun _ _ => False
  ct : Gm → Os → Prop := fun _ _ => False
section
variable (K : PySem.W.Frag) (I : Ini)
abbrev CoE (F H : Hp) (os : Os) (Φ : Os → Tr → Prop) (Q : VK) : Prop := ∀ os' d v F' H', Φ os' d → Nxt K I F H os F' H' os' → RepT K F' v d → Q v H'
def wE (t : TE) (Γ : Gm) (os : Os) (Φ : Os → Tr → Prop) : Prop := ∀ σ F H Q, Now K I F H os → EnvOk K F Γ σ → CoE K I F H os Φ Q → t σ H Q
def wA (t : TA) (Γ : Gm) (os : Os) (Φ : Os → List Tr → Prop) : Prop := ∀ σ F H Q, Now K I F H os → EnvOk K F Γ σ → (∀ os' ds vs F' H', Φ os' ds → Nxt K I F H os F' H' os' → RepTs K F' vs ds → Q vs H') → t σ H Q
def wT (t : TT) (Γ : Gm) (os : Os) (Φ : Os → Bool → Prop) : Prop := ∀ σ F H Q, Now K I F H os → EnvOk K F Γ σ → (∀ os' b F' H', Φ os' b → Nxt K I F H os F' H' os' → Q b H') → t σ H Q
def wP (t : TO) (Γ : Gm) (os : Os) (Φ : Os → Option Int → Prop) : Prop := ∀ σ F H Q, Now K I F H os → EnvOk K F Γ σ → (∀ os' b F' H', Φ os' b → Nxt K I F H os F' H' os' → Q b H') → t σ H Q
/-- by values: two operands -/
def wO (r : R2) (x y : Tr) (os : Os) (Φ : Os → Tr → Prop) : Prop := ∀ F H v u Q, Now K I F H os → RepT K F v x → RepT K F u y → CoE K I F H os Φ Q → r v u H Q
def wU (r : V → Hp → VK → Prop) (x : Tr) (os : Os) (Φ : Os → Tr → Prop) : Prop := ∀ F H v Q, Now K I F H os → RepT K F v x → CoE K I F H os Φ Q → r v H Q
def wR (r : List V → Hp → VK → Prop) (ts : List Tr) (os : Os) (Φ : Os → Tr → Prop) : Prop := ∀ F H vs Q, Now K I F H os → RepTs K F vs ts → CoE K I F H os Φ Q → r vs H Q
def wM (r : V → List V → Hp → VK → Prop) (x : Tr) (ts : List Tr) (os : Os) (Φ : Os → Tr → Prop) : Prop := ∀ F H v vs Q, Now K I F H os → RepT K F v x → RepTs K F vs ts → CoE K I F H os Φ Q → r v vs H Q
def wY (T : String) (x : Tr) (os : Os) : Prop := ∀ F H v, Now K I F H os → RepT K F v x → tyV K T v H
def wL (r : V → Option Int → Option Int → Hp → VK → Prop) (x : Tr) (lo hi : Option Int) (os : Os) (Φ : Os → Tr → Prop) : Prop := ∀ F H v Q, Now K I F H os → RepT K F v x → CoE K I F H os Φ Q → r v lo hi H Q
def wG (g : TG) (t : Tr) (Γ : Gm) (os : Os) (N : Gm → Os → Prop) : Prop := ∀ v σ F H Q, Now K I F H os → EnvOk K F Γ σ → RepT K F v t → (∀ Γ' os' σ' F' H', N Γ' os' → Nxt K I F H os F' H' os' → EnvOk K F' Γ' σ' → Q σ' H') → g v σ H Q
def wGs (g : TGs) (ts : List Tr) (Γ : Gm) (os : Os) (N : Gm → Os → Prop) : Prop := ∀ vs σ F H Q, Now K I F H os → EnvOk K F Γ σ → RepTs K F vs ts → (∀ Γ' os' σ' F' H', N Γ' os' → Nxt K I F H os F' H' os' → EnvOk K F' Γ' σ' → Q σ' H') → g vs σ H Q
structure Co (F H : Hp) (os : Os) (P : Po) (D : Ends) : Prop where
  nx : ∀ Γ' os' σ' F' H', P.nx Γ' os' → Nxt K I F H os F' H' os' → EnvOk K F' Γ' σ' → D.nx σ' H'
  rt : CoE K I F H os P.rt D.rt
  bk : ∀ Γ' os' σ' F' H', P.bk Γ' os' → Nxt K I F H os F' H' os' → EnvOk K F' Γ' σ' → D.bk σ' H'
  ct : ∀ Γ' os' σ' F' H', P.ct Γ' os' → Nxt K I F H os F' H' os' → EnvOk K F' Γ' σ' → D.ct σ' H'
def wS (t : TS) (Γ : Gm) (os : Os) (P : Po) : Prop := ∀ σ F H D, Now K I F H os → EnvOk K F Γ σ → Co K I F H os P D → t D σ H
/-- what a loop walks: the items -/
structure Good (J : It) (ts : List Tr) (F1 H1 : Hp) (os1 : Os) : Prop where
  ex : ∃ G Y, Walk J ts.length G Y ∧ (∀ F' H' os', Nxt K I F1 H1 os1 F' H' os' → G H') ∧
    (∀ (i : Nat) (t : Tr) x F' H' os' H'', ts[i]? = some t → Nxt K I F1 H1 os1 F' H' os' → Y i H' x H'' → ∃ F'', Nxt K I F' H' os' F'' H'' os' ∧ RepT K F'' x t)
def wI (wi : TI) (Γ : Gm) (os : Os) (Ψ : Os → List Tr → Prop) : Prop := ∀ σ F H R, Now K I F H os → EnvOk K F Γ σ →
  (∀ J os' ts F' H', Ψ os' ts → Nxt K I F H os F' H' os' → Good K I J ts F' H' os' → R J H') → wi σ H R
end
section
variable {K : PySem.W.Frag} {I : Ini} {Γ : Gm} {os : Os} {Φ : Os → Tr → Prop} {F H F1 H1 : Hp} {os1 : Os} {P : Po} {D : Ends} {Q : VK}
theorem CoE.step (k : CoE K I F H os Φ Q) (n : Nxt K I F H os F1 H1 os1) : CoE K I F1 H1 os1 Φ Q := fun os' d v F' H' p m r => k os' d v F' H' p (n.trans m) r
theorem Co.step (k : Co K I F H os P D) (n : Nxt K I F H os F1 H1 os1) : Co K I F1 H1 os1 P D :=
  ⟨fun a b c d e p m r => k.nx a b c d e p (n.trans m) r, fun a b c d e p m r => k.rt a b c d e p (n.trans m) r, fun a b c d e p m r => k.bk a b c d e p (n.trans m) r, fun a b c d e p m r => k.ct a b c d e p (n.trans m) r⟩
variable {t u ta tb tc : TE} {tt tu : TT} {tr : TA} {r r' : R2}
theorem wE.weak {Φ' : Os → Tr → Prop} (h : wE K I t Γ os Φ) (k : ∀ os d, Φ os d → Φ' os d) : wE K I t Γ os Φ' := fun σ F H Q n e c => h σ F H Q n e fun os' d v F' H' p m r => c os' d v F' H' (k _ _ p) m r
/-! names, constants -/
theorem wE_var {i : Nat} {d : Tr} (h : Γ[i]? = some (some d)) (k : Φ os d) : wE K I (tVar i) Γ os Φ := fun σ F H Q n e c => by
  obtain ⟨v, a, b⟩ := e.at' i d h
  exact ⟨v, a, c os d v F H k n.self b⟩
theorem wE_int {i : Int} (k : Φ os (.d (.int i))) : wE K I (tC (.int i)) Γ os Φ := fun σ F H Q n e c => c os _ _ F H k n.self rfl
theorem wE_str {i : Str} (k : Φ os (.d (.str i))) : wE K I (tC (.str i)) Γ os Φ := fun σ F H Q n e c => c os _ _ F H k n.self rfl
theorem wE_bl {i : Bool} (k : Φ os (.d (.bl i))) : wE K I (tC (.bl i)) Γ os Φ := fun σ F H Q n e c => c os _ _ F H k n.self rfl
theorem wE_non (k : Φ os (.d .non)) : wE K I (tC .non) Γ os Φ := fun σ F H Q n e c => c os _ _ F H k n.self rfl
theorem wE_ty {T : String} (k : Φ os (.v (.ty T))) : wE K I (tC (.ty T)) Γ os Φ := fun σ F H Q n e c => c os _ _ F H k n.self rfl
theorem wE_ref {a : Addr} (k : Φ os (.v (.ref a))) : wE K I (tC (.ref a)) Γ os Φ := fun σ F H Q n e c => c os _ _ F H k n.self rfl
theorem wE_lit {d : Dat} (k : Φ os (.d d)) : wE K I (tLit K d) Γ os Φ := fun σ F H Q n e c => by
  intro v N H' l r
  obtain ⟨m, s, s2⟩ := n.lit l
  exact c os _ _ _ _ k m (Rep.mono s2 _ r)
/-! operators, calls by values -/
theorem wE_op (h : wE K I ta Γ os fun os1 x => wE K I tb Γ os1 fun os2 y => wO K I r x y os2 Φ) : wE K I (tOp r ta tb) Γ os Φ := fun σ F H Q n e c => by
  refine h σ F H _ n e fun os1 x v F1 H1 h1 m1 r1 => ?_
  refine h1 σ F1 H1 _ m1.now (e.mono m1.up) fun os2 y u F2 H2 h2 m2 r2 => ?_
  exact h2 F2 H2 v u Q m2.now (RepT.mono m2.up _ r1) r2 (c.step (m1.trans m2))
theorem wE_un {r : V → Hp → VK → Prop} (h : wE K I ta Γ os fun os1 x => wU K I r x os1 Φ) : wE K I (tUn r ta) Γ os Φ := fun σ F H Q n e c => by
  refine h σ F H _ n e fun os1 x v F1 H1 h1 m1 r1 => ?_
  exact h1 F1 H1 v Q m1.now r1 (c.step m1)
theorem wA_nil {Φ : Os → List Tr → Prop} (k : Φ os []) : wA K I tNil Γ os Φ := fun σ F H Q n e c => c os [] [] F H k n.self rfl
theorem wA_cons {Φ : Os → List Tr → Prop} (h : wE K I ta Γ os fun os1 x => wA K I tr Γ os1 fun os2 xs => Φ os2 (x :: xs)) : wA K I (tCons ta tr) Γ os Φ := fun σ F H Q n e c => by
  refine h σ F H _ n e fun os1 x v F1 H1 h1 m1 r1 => ?_
  refine h1 σ F1 H1 _ m1.now (e.mono m1.up) fun os2 xs vs F2 H2 h2 m2 r2 => ?_
  exact c _ _ _ _ _ h2 (m1.trans m2) ⟨v, vs, rfl, RepT.mono m2.up _ r1, r2⟩
theorem wA_mix {ds : List Dat} {Φ : Os → List Tr → Prop} (h : wA K I tr Γ os fun os1 xs => Φ os1 (ds.map .d ++ xs)) : wA K I (tMix K ds tr) Γ os Φ := fun σ F H Q n e c => by
  intro vs N H' l r
  obtain ⟨m, s, s2⟩ := n.lit l
  refine h σ _ _ _ m.now (e.mono s) fun os2 xs us F2 H2 h2 m2 r2 => ?_
  exact c _ _ _ _ _ h2 (m.trans m2) (.append (.of (RepAll.mono (s2.trans m2.up) _ r)) r2)
theorem wE_cb {r : List V → Hp → VK → Prop} (h : wA K I tr Γ os fun os1 ts => wR K I r ts os1 Φ) : wE K I (tCB r tr) Γ os Φ := fun σ F H Q n e c => by
  refine h σ F H _ n e fun os1 x v F1 H1 h1 m1 r1 => ?_
  exact h1 F1 H1 v Q m1.now r1 (c.step m1)
theorem wE_call {sp : Sp} {E : XK} (h : wA K I tr Γ os fun os1 ts => wR K I (fun vs H Q => sp vs H Q E) ts os1 Φ) : wE K I (tCall sp [] E tr) Γ os Φ := fun σ F H Q n e c => by
  refine h σ F H _ n e fun os1 x v F1 H1 h1 m1 r1 => ?_
  show sp (v ++ []) H1 Q E
  rw [List.append_nil]
  exact h1 F1 H1 v Q m1.now r1 (c.step m1)
theorem wE_bm0 {T : String} {r : V → List V → Hp → VK → Prop} (h : wE K I ta Γ os fun os1 x => wY K I T x os1 ∧ wM K I r x [] os1 Φ) : wE K I (tBM0 K T r ta) Γ os Φ := fun σ F H Q n e c => by
  refine h σ F H _ n e fun os1 x v F1 H1 h1 m1 r1 => ?_
  exact ⟨h1.1 F1 H1 v m1.now r1, h1.2 F1 H1 v [] Q m1.now r1 rfl (c.step m1)⟩
theorem wE_bm {T : String} {r : V → List V → Hp → VK → Prop} (h : wE K I ta Γ os fun os1 x => wY K I T x os1 ∧ wA K I tr Γ os1 fun os2 ts => wM K I r x ts os2 Φ) : wE K I (tBM K T r ta tr) Γ os Φ := fun σ F H Q n e c => by
  refine h σ F H _ n e fun os1 x v F1 H1 h1 m1 r1 => ?_
  refine ⟨h1.1 F1 H1 v m1.now r1, h1.2 σ F1 H1 _ m1.now (e.mono m1.up) fun os2 xs vs F2 H2 h2 m2 r2 => ?_⟩
  exact h2 F2 H2 v vs Q m2.now (RepT.mono m2.up _ r1) r2 (c.step (m1.trans m2))
/-! tests -/
theorem wT_test (h : wE K I ta Γ os fun os1 x => ∃ k, x = .d (.bl k) ∧ Ψ os1 k) : wT K I (tTest ta) Γ os Ψ := fun σ F H Q n e c => by
  refine h σ F H _ n e fun os1 x v F1 H1 h1 m1 r1 => ?_
  obtain ⟨k, rfl, h1⟩ := h1
  exact ⟨k, r1, c _ _ _ _ h1 m1⟩
theorem wT_b (h : wE K I ta Γ os fun os1 x => ∃ k, x = .d (.bl k) ∧ Ψ os1 k) : wT K I (tB ta) Γ os Ψ := fun σ F H Q n e c => by
  refine h σ F H _ n e fun os1 x v F1 H1 h1 m1 r1 => ?_
  obtain ⟨k, rfl, h1⟩ := h1
  exact ⟨k, r1, c _ _ _ _ h1 m1⟩
theorem wT_not {Ψ : Os → Bool → Prop} (h : wT K I tt Γ os fun os1 k => Ψ os1 (!k)) : wT K I (tNot tt) Γ os Ψ := fun σ F H Q n e c => by
  exact h σ F H _ n e fun os1 k F1 H1 h1 m1 => c _ _ _ _ h1 m1
theorem wT_and {Ψ : Os → Bool → Prop} (h : wT K I tt Γ os fun os1 k => (k = true → wT K I tu Γ os1 Ψ) ∧ (k = false → Ψ os1 false)) : wT K I (tAnd tt tu) Γ os Ψ := fun σ F H Q n e c => by
  refine h σ F H _ n e fun os1 k F1 H1 h1 m1 => ?_
  cases k with
  | true => exact h1.1 rfl σ F1 H1 Q m1.now (e.mono m1.up) fun os2 b F2 H2 p m => c _ _ _ _ p (m1.trans m)
  | false => exact c _ _ _ _ (h1.2 rfl) m1
theorem wT_or {Ψ : Os → Bool → Prop} (h : wT K I tt Γ os fun os1 k => (k = true → Ψ os1 true) ∧ (k = false → wT K I tu Γ os1 Ψ)) : wT K I (tOr tt tu) Γ os Ψ := fun σ F H Q n e c => by
  refine h σ F H _ n e fun os1 k F1 H1 h1 m1 => ?_
  cases k with
  | false => exact h1.2 rfl σ F1 H1 Q m1.now (e.mono m1.up) fun os2 b F2 H2 p m => c _ _ _ _ p (m1.trans m)
  | true => exact c _ _ _ _ (h1.1 rfl) m1
theorem wT_yes {Ψ : Os → Bool → Prop} (k : Ψ os true) : wT K I tYes Γ os Ψ := fun σ F H Q n e c => c _ _ _ _ k n.self
theorem wE_not (h : wE K I ta Γ os fun os1 x => ∃ k, x = .d (.bl k) ∧ Φ os1 (.d (.bl (!k)))) : wE K I (tNotV ta) Γ os Φ := fun σ F H Q n e c => by
  refine h σ F H _ n e fun os1 x v F1 H1 h1 m1 r1 => ?_
  obtain ⟨k, rfl, h1⟩ := h1
  exact ⟨k, r1, c _ _ _ _ _ h1 m1 rfl⟩
theorem wE_and (h : wE K I ta Γ os fun os1 x => ∃ k, x = .d (.bl k) ∧ (k = true → wE K I tb Γ os1 Φ) ∧ (k = false → Φ os1 (.d (.bl false)))) : wE K I (tAndV ta tb) Γ os Φ := fun σ F H Q n e c => by
  refine h σ F H _ n e fun os1 x v F1 H1 h1 m1 r1 => ?_
  obtain ⟨k, rfl, h1, h2⟩ := h1
  refine ⟨k, r1, ?_⟩
  cases k with
  | true => exact h1 rfl σ F1 H1 Q m1.now (e.mono m1.up) (c.step m1)
  | false => exact c _ _ _ _ _ (h2 rfl) m1 rfl
theorem wE_or (h : wE K I ta Γ os fun os1 x => ∃ k, x = .d (.bl k) ∧ (k = true → Φ os1 (.d (.bl true))) ∧ (k = false → wE K I tb Γ os1 Φ)) : wE K I (tOrV ta tb) Γ os Φ := fun σ F H Q n e c => by
  refine h σ F H _ n e fun os1 x v F1 H1 h1 m1 r1 => ?_
  obtain ⟨k, rfl, h1, h2⟩ := h1
  refine ⟨k, r1, ?_⟩
  cases k with
  | false => exact h2 rfl σ F1 H1 Q m1.now (e.mono m1.up) (c.step m1)
  | true => exact c _ _ _ _ _ (h1 rfl) m1 rfl
theorem wE_if (h : wT K I tt Γ os fun os1 k => (k = true → wE K I ta Γ os1 Φ) ∧ (k = false → wE K I tb Γ os1 Φ)) : wE K I (tIf tt ta tb) Γ os Φ := fun σ F H Q n e c => by
  refine h σ F H _ n e fun os1 k F1 H1 h1 m1 => ?_
  cases k with
  | true => exact h1.1 rfl σ F1 H1 Q m1.now (e.mono m1.up) (c.step m1)
  | false => exact h1.2 rfl σ F1 H1 Q m1.now (e.mono m1.up) (c.step m1)
theorem wE_chain (h : wE K I ta Γ os fun os1 x => wE K I tb Γ os1 fun os2 y => wO K I r x y os2 fun os3 z => ∃ k, z = .d (.bl k) ∧
    (k = true → wE K I tc Γ os3 fun os4 w => wO K I r' y w os4 Φ) ∧ (k = false → Φ os3 (.d (.bl false)))) : wE K I (tChain r r' ta tb tc) Γ os Φ := fun σ F H Q n e c => by
  refine h σ F H _ n e fun os1 x v F1 H1 h1 m1 r1 => ?_
  refine h1 σ F1 H1 _ m1.now (e.mono m1.up) fun os2 y u F2 H2 h2 m2 r2 => ?_
  refine h2 F2 H2 v u _ m2.now (RepT.mono m2.up _ r1) r2 fun os3 z w F3 H3 h3 m3 r3 => ?_
  obtain ⟨k, rfl, h3, h4⟩ := h3
  refine ⟨k, r3, ?_⟩
  have m := (m1.trans m2).trans m3
  cases k with
  | true =>
    refine h3 rfl σ F3 H3 _ m3.now (e.mono m.up) fun os4 w' q F4 H4 h4 m4 r4 => ?_
    exact h4 F4 H4 u q Q m4.now (RepT.mono (m3.up.trans m4.up) _ r2) r4 (c.step (m.trans m4))
  | false => exact c _ _ _ _ _ (h4 rfl) m rfl
/-! displays -/
def toDs : List Tr → Option (List Dat)
  | [] => some []
  | .d x :: ts => match toDs ts with | some r => some (x :: r) | none => none
  | _ => none
theorem toDs_eq : ∀ {ts : List Tr} {ds : List Dat}, toDs ts = some ds → ts = ds.map .d
  | [], ds, h => by cases h; rfl
  | .d x :: ts, ds, h => by
    unfold toDs at h
    cases q : toDs ts with
    | none => rw [q] at h; cases h
    | some r => rw [q] at h; cases h; rw [toDs_eq q]; rfl
  | .v _ :: _, _, h => by cases h
  | .lst _ :: _, _, h => by cases h
  | .tup _ :: _, _, h => by cases h
  | .dK _ _ :: _, _, h => by cases h
  | .dT _ _ :: _, _, h => by cases h
  | .ins _ _ _ :: _, _, h => by cases h
theorem toDs_map : ∀ (ds : List Dat), toDs (ds.map .d) = some ds
  | [] => rfl
  | d :: ds => by rw [List.map_cons, toDs, toDs_map ds]
def mkTup (ts : List Tr) : Tr := match toDs ts with | some ds => .d (.tup ds) | none => .tup ts
def mkLst (ts : List Tr) : Tr := match toDs ts with | some ds => .d (.lst ds) | none => .lst ts
theorem mkTup_d (ds : List Dat) : mkTup (ds.map .d) = .d (.tup ds) := by unfold mkTup; rw [toDs_map]
theorem mkLst_d (ds : List Dat) : mkLst (ds.map .d) = .d (.lst ds) := by unfold mkLst; rw [toDs_map]
theorem RepT.mkTup {v : V} {ts : List Tr} (h : RepT K F v (.tup ts)) : RepT K F v (mkTup ts) := by
  unfold Wp.mkTup
  cases q : toDs ts with
  | none => exact h
  | some ds => rw [toDs_eq q] at h; exact h.tup_d
theorem RepT.mkLst {v : V} {ts : List Tr} (h : RepT K F v (.lst ts)) : RepT K F v (mkLst ts) := by
  unfold Wp.mkLst
  cases q : toDs ts with
  | none => exact h
  | some ds => rw [toDs_eq q] at h; exact h.lst_d
/-- the items of a list, of a tuple -/
def asL : Tr → Option (List Tr)
  | .d (.lst ds) => some (ds.map .d)
  | .lst ts => some ts
  | _ => none
def asT : Tr → Option (List Tr)
  | .d (.tup ds) => some (ds.map .d)
  | .tup ts => some ts
  | _ => none
theorem asL_rep {v : V} {t : Tr} {ts : List Tr} (h : RepT K F v t) (e : asL t = some ts) : ∃ a xs, v = .ref a ∧ F a = some (.lst xs) ∧ RepTs K F xs ts := by
  cases t with
  | d x =>
    cases x with
    | lst ds => cases e; exact h.d_lst
    | _ => cases e
  | lst ts => cases e; exact h
  | _ => cases e
theorem asT_rep {v : V} {t : Tr} {ts : List Tr} (h : RepT K F v t) (e : asT t = some ts) : ∃ a xs, v = .ref a ∧ F a = some (.tup xs) ∧ RepTs K F xs ts := by
  cases t with
  | d x =>
    cases x with
    | tup ds => cases e; exact h.d_tup
    | _ => cases e
  | tup ts => cases e; exact h
  | _ => cases e
theorem asL_mk (ts : List Tr) : asL (mkLst ts) = some ts := by
  unfold mkLst
  cases q : toDs ts with
  | none => rfl
  | some ds => rw [toDs_eq q]; rfl
theorem asT_mk (ts : List Tr) : asT (mkTup ts) = some ts := by
  unfold mkTup
  cases q : toDs ts with
  | none => rfl
  | some ds => rw [toDs_eq q]; rfl
theorem wE_tup (h : wA K I tr Γ os fun os1 ts => ts.length ≤ sizeLine ∧ Φ os1 (mkTup ts)) : wE K I (tTup tr) Γ os Φ := fun σ F H Q n e c => by
  refine h σ F H _ n e fun os1 ts vs F1 H1 h1 m1 r1 => ⟨by rw [r1.length]; exact h1.1, fun p hp => ?_⟩
  obtain ⟨m2, s⟩ := m1.now.put (o := .tup vs) hp
  exact c _ _ _ _ _ h1.2 (m1.trans m2) (RepT.mkTup ⟨p, vs, rfl, upd_same, RepTs.mono s _ r1⟩)
/-- a list that is never changed -/
theorem wE_lst (h : wA K I tr Γ os fun os1 ts => ts.length ≤ sizeLine ∧ Φ os1 (mkLst ts)) : wE K I (tLst tr) Γ os Φ := fun σ F H Q n e c => by
  refine h σ F H _ n e fun os1 ts vs F1 H1 h1 m1 r1 => ⟨by rw [r1.length]; exact h1.1, fun p hp => ?_⟩
  obtain ⟨m2, s⟩ := m1.now.put (o := .lst vs) hp
  exact c _ _ _ _ _ h1.2 (m1.trans m2) (RepT.mkLst ⟨p, vs, rfl, upd_same, RepTs.mono s _ r1⟩)
/-- a list of one's own -/
theorem wE_lstO (h : wA K I tr Γ os fun os1 ts => ts.length ≤ sizeLine ∧ ∀ p, Φ (os1 ++ [(p, .lst ts)]) (.v (.ref p))) : wE K I (tLst tr) Γ os Φ := fun σ F H Q n e c => by
  refine h σ F H _ n e fun os1 ts vs F1 H1 h1 m1 r1 => ⟨by rw [r1.length]; exact h1.1, fun p hp => ?_⟩
  have m2 := m1.now.own (o := .lst vs) (c := .lst ts) hp ⟨vs, upd_same, r1⟩
  exact c _ _ _ _ _ (h1.2 p) (m1.trans m2) rfl
/-! subscripts by slices -/
theorem wP_none {Φ : Os → Option Int → Prop} (k : Φ os none) : wP K I tNoPart Γ os Φ := fun σ F H Q n e c => c _ _ _ _ k n.self
theorem wP_some {Φ : Os → Option Int → Prop} (h : wE K I ta Γ os fun os1 x => ∃ i, x = .d (.int i) ∧ Φ os1 (some i)) : wP K I (tPart ta) Γ os Φ := fun σ F H Q n e c => by
  refine h σ F H _ n e fun os1 x v F1 H1 h1 m1 r1 => ?_
  obtain ⟨i, rfl, h1⟩ := h1
  exact ⟨i, r1, c _ _ _ _ h1 m1⟩
theorem wE_sl {r : V → Option Int → Option Int → Hp → VK → Prop} {tl th : TO} (h : wE K I ta Γ os fun os1 x => wP K I tl Γ os1 fun os2 lo => wP K I th Γ os2 fun os3 hi => wL K I r x lo hi os3 Φ) : wE K I (tSl r ta tl th) Γ os Φ := fun σ F H Q n e c => by
  refine h σ F H _ n e fun os1 x v F1 H1 h1 m1 r1 => ?_
  refine h1 σ F1 H1 _ m1.now (e.mono m1.up) fun os2 lo F2 H2 h2 m2 => ?_
  refine h2 σ F2 H2 _ m2.now (e.mono (m1.up.trans m2.up)) fun os3 hi F3 H3 h3 m3 => ?_
  exact h3 F3 H3 v Q m3.now (RepT.mono (m2.up.trans m3.up) _ r1) (c.step ((m1.trans m2).trans m3))
/-! targets -/
theorem wG_name {i : Nat} {d : Tr} {N : Gm → Os → Prop} (k : N (Γ.set i (some d)) os) : wG K I (gName i) d Γ os N := fun v σ F H Q n e r c => c _ _ _ _ _ k n.self (e.set i r)
theorem wGs_nil {N : Gm → Os → Prop} (k : N Γ os) : wGs K I gNil [] Γ os N := fun v σ F H Q n e r c => ⟨r, c _ _ _ _ _ k n.self e⟩
theorem wGs_cons {g : TG} {gs : TGs} {d : Tr} {ds : List Tr} {N : Gm → Os → Prop} (h : wG K I g d Γ os fun Γ1 os1 => wGs K I gs ds Γ1 os1 N) : wGs K I (gCons g gs) (d :: ds) Γ os N := fun vs σ F H Q n e r c => by
  obtain ⟨v, vr, rfl, r1, r2⟩ := r
  refine ⟨v, vr, rfl, h v σ F H _ n e r1 fun Γ1 os1 σ1 F1 H1 h1 m1 e1 => ?_⟩
  exact h1 vr σ1 F1 H1 Q m1.now e1 (RepTs.mono m1.up _ r2) fun Γ2 os2 σ2 F2 H2 h2 m2 e2 => c _ _ _ _ _ h2 (m1.trans m2) e2
theorem wG_tup {m : Nat} {gs : TGs} {d : Tr} {N : Gm → Os → Prop} (h : ∃ ts, asT d = some ts ∧ ts.length = m ∧ wGs K I gs ts Γ os N) : wG K I (gTup K m gs) d Γ os N := fun v σ F H Q n e r c => by
  obtain ⟨ts, e1, e2, h⟩ := h
  obtain ⟨a, xs, rfl, fa, rx⟩ := asT_rep r e1
  exact ⟨a, xs, rfl, .inl (n.sub.rd fa), by rw [rx.length]; exact e2, h xs σ F H Q n e rx c⟩
/-! statements -/
variable {ts tv : TS}
theorem wS_seq (h : wS K I ts Γ os { P with nx := fun Γ1 os1 => wS K I tv Γ1 os1 P }) : wS K I (tSeq ts tv) Γ os P := fun σ F H D n e c =>
  h σ F H _ n e ⟨fun Γ1 os1 σ1 F1 H1 p m e1 => p σ1 F1 H1 D m.now e1 (c.step m), c.rt, c.bk, c.ct⟩
theorem wS_cut (M : Gm → Os → Prop) (h : wS K I ts Γ os { P with nx := M }) (h2 : ∀ Γ1 os1, M Γ1 os1 → wS K I tv Γ1 os1 P) : wS K I (C8.tCut ts tv) Γ os P := fun σ F H D n e c =>
  ⟨fun σ' H' => ∃ Γ1 os1 F1, M Γ1 os1 ∧ Nxt K I F H os F1 H' os1 ∧ EnvOk K F1 Γ1 σ', h σ F H _ n e ⟨fun Γ1 os1 σ1 F1 H1 p m e1 => ⟨Γ1, os1, F1, p, m, e1⟩, c.rt, c.bk, c.ct⟩,
    fun σ' H' ⟨Γ1, os1, F1, p, m, e1⟩ => h2 Γ1 os1 p σ' F1 H' D m.now e1 (c.step m)⟩
theorem wS_next (k : P.nx Γ os) : wS K I tNext Γ os P := fun σ F H D n e c => c.nx _ _ _ _ _ k n.self e
theorem wS_break (k : P.bk Γ os) : wS K I tBreak Γ os P := fun σ F H D n e c => c.bk _ _ _ _ _ k n.self e
theorem wS_cont (k : P.ct Γ os) : wS K I tCont Γ os P := fun σ F H D n e c => c.ct _ _ _ _ _ k n.self e
theorem wS_drop (h : wE K I ta Γ os fun os1 _ => P.nx Γ os1) : wS K I (tDrop ta) Γ os P := fun σ F H D n e c =>
  h σ F H _ n e fun os1 x v F1 H1 h1 m1 r1 => c.nx _ _ _ _ _ h1 m1 (e.mono m1.up)
theorem wS_ret (h : wE K I ta Γ os P.rt) : wS K I (tRet ta) Γ os P := fun σ F H D n e c => h σ F H _ n e c.rt
theorem wS_retN (k : P.rt os (.d .non)) : wS K I tRetN Γ os P := fun σ F H D n e c => c.rt _ _ _ _ _ k n.self rfl
theorem wS_if (h : wT K I tt Γ os fun os1 k => (k = true → wS K I ts Γ os1 P) ∧ (k = false → wS K I tv Γ os1 P)) : wS K I (tIfS tt ts tv) Γ os P := fun σ F H D n e c => by
  refine h σ F H _ n e fun os1 k F1 H1 h1 m1 => ?_
  cases k with
  | true => exact h1.1 rfl σ F1 H1 D m1.now (e.mono m1.up) (c.step m1)
  | false => exact h1.2 rfl σ F1 H1 D m1.now (e.mono m1.up) (c.step m1)
theorem wS_asg {g : TG} (h : wE K I ta Γ os fun os1 x => wG K I g x Γ os1 P.nx) : wS K I (tAsg ta g) Γ os P := fun σ F H D n e c =>
  h σ F H _ n e fun os1 x v F1 H1 h1 m1 r1 => h1 v σ F1 H1 _ m1.now (e.mono m1.up) r1 fun Γ2 os2 σ2 F2 H2 h2 m2 e2 => c.nx _ _ _ _ _ h2 (m1.trans m2) e2
theorem wS_set {i : Nat} (h : wE K I ta Γ os fun os1 x => P.nx (Γ.set i (some x)) os1) : wS K I (tAsg ta (gName i)) Γ os P :=
  wS_asg (h.weak fun _ _ q => wG_name q)
theorem wS_par {i j : Nat} (h : wA K I tr Γ os fun os1 xs => ∃ x y, xs = [x, y] ∧ P.nx ((Γ.set i (some x)).set j (some y)) os1) : wS K I (tPar i j tr) Γ os P := fun σ F H D n e c =>
  h σ F H _ n e fun os1 xs vs F1 H1 h1 m1 r1 => by
    obtain ⟨x, y, rfl, h1⟩ := h1
    obtain ⟨v, _, rfl, rx, w, _, rfl, ry, rfl⟩ := r1
    exact ⟨v, w, rfl, c.nx _ _ _ _ _ h1 m1 (((e.mono m1.up).set i rx).set j ry)⟩
theorem wS_par3 {i j l : Nat} (h : wA K I tr Γ os fun os1 xs => ∃ x y z, xs = [x, y, z] ∧ P.nx (((Γ.set i (some x)).set j (some y)).set l (some z)) os1) : wS K I (tPar3 i j l tr) Γ os P := fun σ F H D n e c =>
  h σ F H _ n e fun os1 xs vs F1 H1 h1 m1 r1 => by
    obtain ⟨x, y, z, rfl, h1⟩ := h1
    obtain ⟨v, _, rfl, rx, w, _, rfl, ry, q, _, rfl, rz, rfl⟩ := r1
    exact ⟨v, w, q, rfl, c.nx _ _ _ _ _ h1 m1 ((((e.mono m1.up).set i rx).set j ry).set l rz)⟩
/-! cells -/
/-- a cell of one's own, a list, is changed no more -/
theorem wS_freeze (j : Nat) {p : Addr} {xs : List Tr} (hj : os[j]? = some (p, .lst xs)) (Γ' : Gm) (hΓ : ∀ F v, RepT K F v (mkLst xs) → v = .ref p → ∀ σ, EnvOk K F Γ σ → EnvOk K F Γ' σ)
    (h : wS K I ts Γ' (os.eraseIdx j) P) : wS K I ts Γ os P := fun σ F H D n e c => by
  obtain ⟨vs, hp, r⟩ := n.wo.ok _ (List.mem_of_getElem? hj)
  obtain ⟨m, s⟩ := n.freeze hj hp
  exact h σ _ H D m.now (hΓ _ (.ref p) (RepT.mkLst ⟨p, vs, rfl, upd_same, RepTs.mono s _ r⟩) rfl σ (e.mono s)) (c.step m)
theorem wS.perm {os1 : Os} (pm : os.Perm os1) (h : wS K I ts Γ os1 P) : wS K I ts Γ os P := fun σ F H D n e c => by
  have m := n.perm pm
  exact h σ F H D m.now e (c.step m)
theorem wE.perm {os1 : Os} (pm : os.Perm os1) (h : wE K I ta Γ os1 Φ) : wE K I ta Γ os Φ := fun σ F H D n e c => by
  have m := n.perm pm
  exact h σ F H D m.now e (c.step m)
/-- what a slot says may be told otherwise -/
theorem wS.env {Γ' : Gm} (hΓ : ∀ F σ, EnvOk K F Γ σ → EnvOk K F Γ' σ) (h : wS K I ts Γ' os P) : wS K I ts Γ os P := fun σ F H D n e c => h σ F H D n (hΓ F σ e) c
/-! loops -/
theorem wS_for {wi : TI} {g : TG} {tb : TS} (h : wI K I wi Γ os fun os1 its => ∃ Iv : Nat → Gm → Os → Prop, Iv 0 Γ os1 ∧
    (∀ (i : Nat) (t : Tr) Γ2 os2, its[i]? = some t → Iv i Γ2 os2 → wG K I g t Γ2 os2 fun Γ3 os3 => wS K I tb Γ3 os3 { P with nx := Iv (i + 1), ct := Iv (i + 1), bk := P.nx }) ∧ (∀ Γ2 os2, Iv its.length Γ2 os2 → P.nx Γ2 os2)) :
    wS K I (tFor wi g tb) Γ os P := fun σ F H D n e c => by
  refine h σ F H _ n e fun J os1 its F1 H1 h1 m1 gd => ?_
  obtain ⟨Iv, h0, hs, hd⟩ := h1
  obtain ⟨G, Y, wk, hG, hY⟩ := gd.ex
  refine for_it wk (fun i σ' H' => ∃ Γ2 os2 F2, Iv i Γ2 os2 ∧ Nxt K I F1 H1 os1 F2 H' os2 ∧ EnvOk K F2 Γ2 σ') ⟨Γ, os1, F1, h0, m1.now.self, e.mono m1.up⟩ (fun i σ' H' _ ⟨Γ2, os2, F2, _, m, _⟩ => hG F2 H' os2 m) ?_ ?_
  · rintro i x σ' H' H'' hi ⟨Γ2, os2, F2, p, m, e2⟩ y
    have ht : its[i]? = some its[i] := List.getElem?_eq_getElem hi
    obtain ⟨F3, m3, r3⟩ := hY i _ x F2 H' os2 H'' ht m y
    refine hs i _ Γ2 os2 ht p x σ' F3 H'' _ m3.now (e2.mono m3.up) r3 fun Γ4 os4 σ4 F4 H4 h4 m4 e4 => ?_
    have m34 := (m.trans m3).trans m4
    refine h4 σ4 F4 H4 _ m4.now e4 ⟨fun Γ5 os5 σ5 F5 H5 p5 m5 e5 => ⟨Γ5, os5, F5, p5, m34.trans m5, e5⟩, fun os5 d v F5 H5 p5 m5 r5 => c.rt _ _ _ _ _ p5 ((m1.trans m34).trans m5) r5,
      fun Γ5 os5 σ5 F5 H5 p5 m5 e5 => c.nx _ _ _ _ _ p5 ((m1.trans m34).trans m5) e5, fun Γ5 os5 σ5 F5 H5 p5 m5 e5 => ⟨Γ5, os5, F5, p5, m34.trans m5, e5⟩⟩
  · rintro σ' H' ⟨Γ2, os2, F2, p, m, e2⟩
    exact c.nx _ _ _ _ _ (hd _ _ p) (m1.trans m) e2
theorem wI_list {Ψ : Os → List Tr → Prop} (h : wE K I ta Γ os fun os1 x => ∃ xs, asL x = some xs ∧ Ψ os1 xs) : wI K I (iList K ta) Γ os Ψ := fun σ F H R n e c => by
  refine h σ F H _ n e fun os1 x v F1 H1 h1 m1 r1 => ?_
  obtain ⟨xs, ex, h1⟩ := h1
  obtain ⟨a, vs, rfl, fa, rx⟩ := asL_rep r1 ex
  refine ⟨a, rfl, ⟨vs, .inl (m1.now.sub.rd fa)⟩, c _ os1 xs F1 H1 h1 m1 ⟨_, _, (show Walk _ xs.length _ _ from rx.length ▸ walk_list (xs := vs)), fun F' H' os' m => .inl (m.now.sub.rd (m.up _ _ fa)), fun i t x F' H' os' H'' ht m y => ?_⟩⟩
  obtain ⟨rfl, hx⟩ := y
  obtain ⟨t', e1, e2⟩ := rx.get hx
  rw [ht] at e1; cases e1
  exact ⟨F', m.now.self, RepT.mono m.up _ e2⟩
theorem wI_tup {Ψ : Os → List Tr → Prop} (h : wE K I ta Γ os fun os1 x => ∃ xs, asT x = some xs ∧ Ψ os1 xs) : wI K I (iTup K ta) Γ os Ψ := fun σ F H R n e c => by
  refine h σ F H _ n e fun os1 x v F1 H1 h1 m1 r1 => ?_
  obtain ⟨xs, ex, h1⟩ := h1
  obtain ⟨a, vs, rfl, fa, rx⟩ := asT_rep r1 ex
  refine ⟨a, rfl, ⟨vs, .inl (m1.now.sub.rd fa)⟩, c _ os1 xs F1 H1 h1 m1 ⟨_, _, (show Walk _ xs.length _ _ from rx.length ▸ walk_tup (xs := vs)), fun F' H' os' m => .inl (m.now.sub.rd (m.up _ _ fa)), fun i t x F' H' os' H'' ht m y => ?_⟩⟩
  obtain ⟨rfl, hx⟩ := y
  obtain ⟨t', e1, e2⟩ := rx.get hx
  rw [ht] at e1; cases e1
  exact ⟨F', m.now.self, RepT.mono m.up _ e2⟩
/-- lo, lo + 1, .. -/
def rngT (lo : Int) (n : Nat) : List Tr := (List.range n).map fun i => .d (.int (lo + (i : Nat)))
theorem rngT_get {lo : Int} {n i : Nat} {t : Tr} (h : (rngT lo n)[i]? = some t) : i < n ∧ t = .d (.int (lo + (i : Nat))) := by
  unfold rngT at h
  rw [List.getElem?_map] at h
  cases q : (List.range n)[i]? with
  | none => rw [q] at h; cases h
  | some j =>
    rw [q] at h
    cases h
    obtain ⟨a, b⟩ := List.getElem?_eq_some_iff.mp q
    rw [List.length_range] at a
    rw [List.getElem_range] at b
    subst b
    exact ⟨a, rfl⟩
theorem rngT_len {lo : Int} {n : Nat} : (rngT lo n).length = n := by simp [rngT]
theorem good_rng {lo : Int} {m : Nat} : Good K I (Itr lo m) (rngT lo m) F H os :=
  ⟨fun _ => True, YFn fun i => .int (lo + (i : Nat)), (by rw [rngT_len]; exact walk_range), fun _ _ _ _ => trivial, fun i t x F' H' os' H'' ht m y => by
    obtain ⟨rfl, rfl⟩ := y
    obtain ⟨_, rfl⟩ := rngT_get ht
    exact ⟨F', m.now.self, rfl⟩⟩
theorem wI_rng1 {Ψ : Os → List Tr → Prop} (h : wA K I tr Γ os fun os1 xs => ∃ j : Int, xs = [.d (.int j)] ∧ -(2 ^ 62) ≤ j ∧ j < 2 ^ 62 ∧ Ψ os1 (rngT 0 j.toNat)) : wI K I (iRng1 tr) Γ os Ψ := fun σ F H R n e c => by
  refine h σ F H _ n e fun os1 x v F1 H1 h1 m1 r1 => ?_
  obtain ⟨j, rfl, l1, l2, h1⟩ := h1
  obtain ⟨v, _, rfl, rv, rfl⟩ := r1
  obtain rfl : v = .int j := rv
  exact ⟨j, rfl, l1, l2, c _ os1 _ F1 H1 h1 m1 good_rng⟩
theorem wI_rng2 {Ψ : Os → List Tr → Prop} (h : wA K I tr Γ os fun os1 xs => ∃ i j : Int, xs = [.d (.int i), .d (.int j)] ∧ (-(2 ^ 62) ≤ i ∧ i < 2 ^ 62 ∧ -(2 ^ 62) ≤ j ∧ j < 2 ^ 62) ∧ Ψ os1 (rngT i (j - i).toNat)) : wI K I (iRng2 tr) Γ os Ψ := fun σ F H R n e c => by
  refine h σ F H _ n e fun os1 x v F1 H1 h1 m1 r1 => ?_
  obtain ⟨i, j, rfl, l, h1⟩ := h1
  obtain ⟨v, _, rfl, rv, w, _, rfl, rw', rfl⟩ := r1
  obtain rfl : v = .int i := rv
  obtain rfl : w = .int j := rw'
  exact ⟨i, j, rfl, l, c _ os1 _ F1 H1 h1 m1 good_rng⟩
end
end Wp

set_option Elab.async false
set_option linter.all false
set_option maxRecDepth 100000
set_option maxHeartbeats 4000000
/-! Rules by values: operators, built-ins, methods. -/
namespace Wp
open PySem PySem.Spec PyProof.Rows L2 G D L C Lt
open Kx (inV_str)
/-- the items of a list: one that never changes, or a cell -/
def SeqL (os : Os) (x : Tr) (ts : List Tr) : Prop := asL x = some ts ∨ ∃ (j : Nat) (p : Addr), os[j]? = some (p, .lst ts) ∧ x = .v (.ref p)
section
variable {K : PySem.W.Frag} {I : Ini} {Γ : Gm} {os : Os} {Φ : Os → Tr → Prop} {F H F1 H1 : Hp} {os1 : Os} {P : Po} {D : Ends} {Q : VK} {v : V} {x y : Tr} {ts us : List Tr}
theorem SeqL.at (h : SeqL os x ts) (n : Now K I F H os) (r : RepT K F v x) : ∃ a xs, v = .ref a ∧ H a = some (.lst xs) ∧ RepTs K F xs ts := by
  rcases h with h | ⟨j, p, h, rfl⟩
  · obtain ⟨a, xs, e, fa, rx⟩ := asL_rep r h
    exact ⟨a, xs, e, n.sub.at fa, rx⟩
  · obtain ⟨xs, e, rx⟩ := n.wo.ok _ (List.mem_of_getElem? h)
    exact ⟨p, xs, r, e, rx⟩
theorem asT_at (h : asT x = some ts) (n : Now K I F H os) (r : RepT K F v x) : ∃ a xs, v = .ref a ∧ H a = some (.tup xs) ∧ F a = some (.tup xs) ∧ RepTs K F xs ts := by
  obtain ⟨a, xs, e, fa, rx⟩ := asT_rep r h
  exact ⟨a, xs, e, n.sub.at fa, fa, rx⟩
theorem atI_rep {vs : List V} {i : Int} {t : Tr} (r : RepTs K F vs ts) (h : atI ts i = some t) : ∃ u, atI vs i = some u ∧ RepT K F u t := by
  unfold atI at h ⊢
  rw [r.length]
  cases q : ixN ts.length i with
  | none => rw [q] at h; cases h
  | some j =>
    rw [q] at h
    exact r.nth h
/-! ints, texts, truths -/
theorem wO_intI {g : Int → Int → V} {i j k : Int} (e : g i j = .int k) (h : Φ os (.d (.int k))) : wO K I (rI0 g) (.d (.int i)) (.d (.int j)) os Φ := fun F H v u Q n r s c => ⟨i, j, r, s, c os _ _ F H h n.self e⟩
theorem wO_intB {g : Int → Int → V} {i j : Int} {k : Bool} (e : g i j = .bl k) (h : Φ os (.d (.bl k))) : wO K I (rI0 g) (.d (.int i)) (.d (.int j)) os Φ := fun F H v u Q n r s c => ⟨i, j, r, s, c os _ _ F H h n.self e⟩
theorem wO_intC {g : Int → Int → V} {C : Int → Int → Prop} {i j k : Int} (hc : C i j) (e : g i j = .int k) (h : Φ os (.d (.int k))) : wO K I (rI C g) (.d (.int i)) (.d (.int j)) os Φ := fun F H v u Q n r s c => ⟨i, j, r, s, hc, c os _ _ F H h n.self e⟩
theorem dec_i (i j : Int) : decide (V.int i = V.int j) = decide (i = j) := by simp
theorem dec_s (i j : Str) : decide (V.str i = V.str j) = decide (i = j) := by simp
theorem dec_b (i j : Bool) : decide (V.bl i = V.bl j) = decide (i = j) := by simp
theorem wO_eqI {i j : Int} (h : Φ os (.d (.bl (decide (i = j))))) : wO K I rEq (.d (.int i)) (.d (.int j)) os Φ := fun F H v u Q n r s c => by
  cases (show v = .int i from r); cases (show u = .int j from s)
  exact ⟨rfl, c os _ _ F H h n.self (congrArg V.bl (dec_i i j))⟩
theorem wO_eqS {i j : Str} (h : Φ os (.d (.bl (decide (i = j))))) : wO K I rEq (.d (.str i)) (.d (.str j)) os Φ := fun F H v u Q n r s c => by
  cases (show v = .str i from r); cases (show u = .str j from s)
  exact ⟨rfl, c os _ _ F H h n.self (congrArg V.bl (dec_s i j))⟩
theorem wO_neI {i j : Int} (h : Φ os (.d (.bl (!decide (i = j))))) : wO K I rNe (.d (.int i)) (.d (.int j)) os Φ := fun F H v u Q n r s c => by
  cases (show v = .int i from r); cases (show u = .int j from s)
  exact ⟨rfl, c os _ _ F H h n.self (congrArg (fun b => V.bl (!b)) (dec_i i j))⟩
theorem wO_neS {i j : Str} (h : Φ os (.d (.bl (!decide (i = j))))) : wO K I rNe (.d (.str i)) (.d (.str j)) os Φ := fun F H v u Q n r s c => by
  cases (show v = .str i from r); cases (show u = .str j from s)
  exact ⟨rfl, c os _ _ F H h n.self (congrArg (fun b => V.bl (!b)) (dec_s i j))⟩
theorem wO_eqStr {d : Dat} {t : Str} (hn : d.noObj = true) (h : Φ os (.d (.bl (d.isThe t)))) : wO K I (rEqStr K) (.d d) (.d (.str t)) os Φ := fun F H v u Q n r s c =>
  ⟨d, t, Rep.sub n.sub _ r, hn, s, c os _ _ F H h n.self rfl⟩
theorem wO_isB {a b : Bool} (h : Φ os (.d (.bl (decide (a = b))))) : wO K I (fun x y H Q => ∃ a b, x = .bl a ∧ y = .bl b ∧ Q (.bl (decide (a = b))) H) (.d (.bl a)) (.d (.bl b)) os Φ := fun F H v u Q n r s c => ⟨a, b, r, s, c os _ _ F H h n.self rfl⟩
theorem wO_notB {a b : Bool} (h : Φ os (.d (.bl (!decide (a = b))))) : wO K I (fun x y H Q => ∃ a b, x = .bl a ∧ y = .bl b ∧ Q (.bl (!decide (a = b))) H) (.d (.bl a)) (.d (.bl b)) os Φ := fun F H v u Q n r s c => ⟨a, b, r, s, c os _ _ F H h n.self rfl⟩
/-- a value that is no None -/
def isNon : Tr → Bool
  | .d .non => true
  | .v .non => true
  | _ => false
theorem isNon_eq {t : Tr} (r : RepT K F v t) : decide (v = .non) = isNon t := by
  cases t with
  | d x => cases x with
    | non => cases (show v = .non from r); rfl
    | bl b => cases (show v = .bl b from r); rfl
    | int b => cases (show v = .int b from r); rfl
    | str b => cases (show v = .str b from r); rfl
    | lst ds => obtain ⟨a, _, rfl, _⟩ := r; rfl
    | tup ds => obtain ⟨a, _, rfl, _⟩ := r; rfl
    | dct ks ds => obtain ⟨a, _, rfl, _⟩ := r; rfl
    | obj C a => obtain ⟨rfl, _⟩ := r; rfl
  | v u => cases (show v = u from r); cases v <;> rfl
  | lst ds => obtain ⟨a, _, rfl, _⟩ := r; rfl
  | tup ds => obtain ⟨a, _, rfl, _⟩ := r; rfl
  | dK ks ds => obtain ⟨a, _, rfl, _⟩ := r; rfl
  | dT ks ds => obtain ⟨a, _, rfl, _⟩ := r; rfl
  | ins C ks ds => obtain ⟨a, _, _, rfl, _⟩ := r; rfl
theorem wO_isN (h : Φ os (.d (.bl (isNon x)))) : wO K I (fun x y H Q => y = .non ∧ Q (.bl (decide (x = .non))) H) x (.d .non) os Φ := fun F H v u Q n r s c => ⟨s, c os _ _ F H h n.self (by rw [isNon_eq r]; rfl)⟩
theorem wO_notN (h : Φ os (.d (.bl (!isNon x)))) : wO K I (fun x y H Q => y = .non ∧ Q (.bl (!decide (x = .non))) H) x (.d .non) os Φ := fun F H v u Q n r s c => ⟨s, c os _ _ F H h n.self (by rw [isNon_eq r]; rfl)⟩
theorem wO_addS {i j : Str} (hl : i.length + j.length ≤ sizeLine) (h : Φ os (.d (.str (i ++ j)))) : wO K I (fun x y H Q => ∃ i j, x = .str i ∧ y = .str j ∧ i.length + j.length ≤ sizeLine ∧ Q (.str (i ++ j)) H) (.d (.str i)) (.d (.str j)) os Φ := fun F H v u Q n r s c => ⟨i, j, r, s, hl, c os _ _ F H h n.self rfl⟩
theorem wR_int {i : Int} (h : Φ os (.d (.int i))) : wR K I (fun xs H Q => (∃ i, xs = [.int i] ∧ Q (.int i) H) ∨ ∃ k, xs = [.bl k] ∧ Q (.int (if k then 1 else 0)) H) [.d (.int i)] os Φ := fun F H vs Q n r c => by
  obtain ⟨v, _, rfl, rv, rfl⟩ := r
  exact .inl ⟨i, by rw [show v = V.int i from rv], c os _ _ F H h n.self rfl⟩
theorem wR_intB {k : Bool} (h : Φ os (.d (.int (if k then 1 else 0)))) : wR K I (fun xs H Q => (∃ i, xs = [.int i] ∧ Q (.int i) H) ∨ ∃ k, xs = [.bl k] ∧ Q (.int (if k then 1 else 0)) H) [.d (.bl k)] os Φ := fun F H vs Q n r c => by
  obtain ⟨v, _, rfl, rv, rfl⟩ := r
  exact .inr ⟨k, by rw [show v = V.bl k from rv], c os _ _ F H h n.self rfl⟩
/-! lists and tuples -/
theorem wO_ixL {i : Int} {t : Tr} (hs : SeqL os x ts) (ha : atI ts i = some t) (h : Φ os t) : wO K I (rIxL K) x (.d (.int i)) os Φ := fun F H v u Q n r s c => by
  obtain ⟨a, xs, rfl, ea, rx⟩ := hs.at n r
  obtain ⟨w, e, rw'⟩ := atI_rep rx ha
  exact ⟨a, xs, i, w, rfl, s, .inl (.inl ea), e, c os _ _ F H h n.self rw'⟩
theorem wO_ixT {i : Int} {t : Tr} (hs : asT x = some ts) (ha : atI ts i = some t) (h : Φ os t) : wO K I (rIxT K) x (.d (.int i)) os Φ := fun F H v u Q n r s c => by
  obtain ⟨a, xs, rfl, ea, _, rx⟩ := asT_at hs n r
  obtain ⟨w, e, rw'⟩ := atI_rep rx ha
  exact ⟨a, xs, i, w, rfl, s, .inl (.inl ea), e, c os _ _ F H h n.self rw'⟩
theorem wO_ixSL {i : Int} {t : Tr} (hs : SeqL os x ts) (ha : atI ts i = some t) (h : Φ os t) : wO K I (rIx K) x (.d (.int i)) os Φ := fun F H v u Q n r s c => .inl (wO_ixL hs ha h F H v u Q n r s c)
theorem wO_ixST {i : Int} {t : Tr} (hs : asT x = some ts) (ha : atI ts i = some t) (h : Φ os t) : wO K I (rIx K) x (.d (.int i)) os Φ := fun F H v u Q n r s c => .inr (.inl (wO_ixT hs ha h F H v u Q n r s c))
/-- a new list that is never changed, a new one of one's own -/
theorem put_lst {p : Addr} {vs : List V} (n : Now K I F H os) (hp : H p = none) (r : RepTs K F vs ts) (c : CoE K I F H os Φ Q) (h : Φ os (mkLst ts)) : Q (.ref p) (upd H p (.lst vs)) := by
  obtain ⟨m2, s⟩ := n.put (o := .lst vs) hp
  exact c _ _ _ _ _ h m2 (RepT.mkLst ⟨p, vs, rfl, upd_same, RepTs.mono s _ r⟩)
theorem own_lst {p : Addr} {vs : List V} (n : Now K I F H os) (hp : H p = none) (r : RepTs K F vs ts) (c : CoE K I F H os Φ Q) (h : Φ (os ++ [(p, .lst ts)]) (.v (.ref p))) : Q (.ref p) (upd H p (.lst vs)) := by
  have m2 := n.own (o := .lst vs) (c := .lst ts) hp ⟨vs, upd_same, r⟩
  exact c _ _ _ _ _ h m2 rfl
theorem put_tup {p : Addr} {vs : List V} (n : Now K I F H os) (hp : H p = none) (r : RepTs K F vs ts) (c : CoE K I F H os Φ Q) (h : Φ os (mkTup ts)) : Q (.ref p) (upd H p (.tup vs)) := by
  obtain ⟨m2, s⟩ := n.put (o := .tup vs) hp
  exact c _ _ _ _ _ h m2 (RepT.mkTup ⟨p, vs, rfl, upd_same, RepTs.mono s _ r⟩)
theorem wO_cat (hx : SeqL os x ts) (hy : SeqL os y us) (hl : ts.length + us.length ≤ sizeLine) (h : Φ os (mkLst (ts ++ us))) : wO K I rCat x y os Φ := fun F H v u Q n r s c => by
  obtain ⟨a, xs, rfl, ea, rx⟩ := hx.at n r
  obtain ⟨b, ys, rfl, eb, ry⟩ := hy.at n s
  exact ⟨a, b, xs, ys, rfl, rfl, ea, eb, by rw [rx.length, ry.length]; exact hl, fun p hp => put_lst n hp (rx.append ry) c h⟩
theorem wO_catO (hx : SeqL os x ts) (hy : SeqL os y us) (hl : ts.length + us.length ≤ sizeLine) (h : ∀ p, Φ (os ++ [(p, .lst (ts ++ us))]) (.v (.ref p))) : wO K I rCat x y os Φ := fun F H v u Q n r s c => by
  obtain ⟨a, xs, rfl, ea, rx⟩ := hx.at n r
  obtain ⟨b, ys, rfl, eb, ry⟩ := hy.at n s
  exact ⟨a, b, xs, ys, rfl, rfl, ea, eb, by rw [rx.length, ry.length]; exact hl, fun p hp => own_lst n hp (rx.append ry) c (h p)⟩
theorem wO_catT (hx : asT x = some ts) (hy : asT y = some us) (hne : ts ≠ []) (hne2 : us ≠ []) (hl : ts.length + us.length ≤ sizeLine) (h : Φ os (mkTup (ts ++ us))) : wO K I (rCatT K) x y os Φ := fun F H v u Q n r s c => by
  obtain ⟨a, xs, rfl, ea, _, rx⟩ := asT_at hx n r
  obtain ⟨b, ys, rfl, eb, _, ry⟩ := asT_at hy n s
  have ne : ∀ {vs : List V} {ts : List Tr}, RepTs K F vs ts → ts ≠ [] → vs ≠ [] := fun r h z => h (List.length_eq_zero_iff.mp (by rw [← r.length, z]; rfl))
  exact ⟨a, b, xs, ys, rfl, rfl, .inl (.inl ea), .inl (.inl eb), ne rx hne, by rw [rx.length, ry.length]; exact hl, fun z => absurd z (ne ry hne2), fun _ p hp => put_tup n hp (rx.append ry) c h⟩
theorem repl_rep {vs : List V} (r : RepTs K F vs ts) : ∀ k : Nat, RepTs K F (List.replicate k vs).flatten (List.replicate k ts).flatten
  | 0 => rfl
  | k + 1 => by
    rw [List.replicate_succ, List.replicate_succ, List.flatten_cons, List.flatten_cons]
    exact r.append (repl_rep r k)
theorem wO_rep {k : Int} (hx : SeqL os x ts) (h0 : -(2 ^ 63) ≤ k) (h1 : k < 2 ^ 63) (hl : ts.length * k.toNat ≤ sizeLine) (h : Φ os (mkLst (List.replicate k.toNat ts).flatten)) : wO K I rRep x (.d (.int k)) os Φ := fun F H v u Q n r s c => by
  obtain ⟨a, xs, rfl, ea, rx⟩ := hx.at n r
  exact ⟨a, k, xs, rfl, s, ea, h0, h1, by rw [rx.length]; exact hl, fun p hp => put_lst n hp (repl_rep rx _) c h⟩
def cutT (xs : List Tr) (lo hi : Option Int) : List Tr := (xs.drop (HT.sIx xs.length 0 lo)).take (HT.sIx xs.length xs.length hi - HT.sIx xs.length 0 lo)
theorem cut_rep {vs : List V} (r : RepTs K F vs ts) (lo hi : Option Int) : RepTs K F (cutV vs lo hi) (cutT ts lo hi) := by
  unfold cutV cutT
  rw [r.length]
  exact (r.drop _).take _
theorem wL_list {lo hi : Option Int} (hx : SeqL os x ts) (h : Φ os (mkLst (cutT ts lo hi))) : wL K I (rSlL K) x lo hi os Φ := fun F H v Q n r c => by
  obtain ⟨a, xs, rfl, ea, rx⟩ := hx.at n r
  exact ⟨a, xs, rfl, .inl (.inl ea), fun p hp => put_lst n hp (cut_rep rx _ _) c h⟩
theorem wL_listO {lo hi : Option Int} (hx : SeqL os x ts) (h : ∀ p, Φ (os ++ [(p, .lst (cutT ts lo hi))]) (.v (.ref p))) : wL K I (rSlL K) x lo hi os Φ := fun F H v Q n r c => by
  obtain ⟨a, xs, rfl, ea, rx⟩ := hx.at n r
  exact ⟨a, xs, rfl, .inl (.inl ea), fun p hp => own_lst n hp (cut_rep rx _ _) c (h p)⟩
theorem wO_inS {s : Str} {xs : List Str} (hs : SeqL os y (xs.map fun z => .d (.str z))) (h : Φ os (.d (.bl (decide (s ∈ xs))))) : wO K I (rIn K false) (.d (.str s)) y os Φ := fun F H v u Q n r q c => by
  obtain ⟨a, ys, rfl, ea, rx⟩ := hs.at n q
  have : ys = xs.map V.str := by
    rw [show (xs.map fun z => Tr.d (.str z)) = (xs.map Dat.str).map .d from by rw [List.map_map]; rfl] at rx
    exact rx.all.strs
  subst this
  cases (show v = .str s from r)
  refine ⟨a, _, rfl, .inl (.inl (.inl ea)), rfl, by simp [flatV], ?_⟩
  rw [inV_str]
  exact c os _ _ F H h n.self rfl
theorem wO_notInS {s : Str} {xs : List Str} (hs : SeqL os y (xs.map fun z => .d (.str z))) (h : Φ os (.d (.bl (!decide (s ∈ xs))))) : wO K I (rIn K true) (.d (.str s)) y os Φ := fun F H v u Q n r q c => by
  obtain ⟨a, ys, rfl, ea, rx⟩ := hs.at n q
  have : ys = xs.map V.str := by
    rw [show (xs.map fun z => Tr.d (.str z)) = (xs.map Dat.str).map .d from by rw [List.map_map]; rfl] at rx
    exact rx.all.strs
  subst this
  cases (show v = .str s from r)
  refine ⟨a, _, rfl, .inl (.inl (.inl ea)), rfl, by simp [flatV], ?_⟩
  rw [inV_str]
  exact c os _ _ F H h n.self rfl
/-- against an empty list -/
theorem wO_eqL0 (hx : SeqL os x ts) (hy : SeqL os y []) (h : Φ os (.d (.bl ts.isEmpty))) : wO K I (rEqLst0 K) x y os Φ := fun F H v u Q n r s c => by
  obtain ⟨a, xs, rfl, ea, rx⟩ := hx.at n r
  obtain ⟨b, ys, rfl, eb, ry⟩ := hy.at n s
  cases (show ys = [] from ry)
  have : xs.isEmpty = ts.isEmpty := by
    cases ts with
    | nil => cases (show xs = [] from rx); rfl
    | cons t ts => obtain ⟨_, _, rfl, _⟩ := rx; rfl
  exact ⟨a, b, xs, rfl, ea, rfl, eb, c os _ _ F H h n.self (by rw [this]; rfl)⟩
theorem wO_neL0 (hx : SeqL os x ts) (hy : SeqL os y []) (h : Φ os (.d (.bl (!ts.isEmpty)))) : wO K I (rNeLst0 K) x y os Φ := fun F H v u Q n r s c => by
  obtain ⟨a, xs, rfl, ea, rx⟩ := hx.at n r
  obtain ⟨b, ys, rfl, eb, ry⟩ := hy.at n s
  cases (show ys = [] from ry)
  have : xs.isEmpty = ts.isEmpty := by
    cases ts with
    | nil => cases (show xs = [] from rx); rfl
    | cons t ts => obtain ⟨_, _, rfl, _⟩ := rx; rfl
  exact ⟨a, b, xs, rfl, ea, rfl, eb, c os _ _ F H h n.self (by rw [this]; rfl)⟩
/-! built-ins -/
theorem wR_lenL (hx : SeqL os x ts) (h : Φ os (.d (.int ts.length))) : wR K I (fun xs H Q => ∃ p ys, xs = [.ref p] ∧ (L2.SqL K H p ys ∨ SqT K H p ys) ∧ Q (.int ys.length) H) [x] os Φ := fun F H vs Q n r c => by
  obtain ⟨v, _, rfl, rv, rfl⟩ := r
  obtain ⟨a, xs, rfl, ea, rx⟩ := hx.at n rv
  exact ⟨a, xs, rfl, .inl (.inl (.inl ea)), c os _ _ F H h n.self (by rw [rx.length]; rfl)⟩
theorem wR_lenT (hx : asT x = some ts) (h : Φ os (.d (.int ts.length))) : wR K I (fun xs H Q => ∃ p ys, xs = [.ref p] ∧ (L2.SqL K H p ys ∨ SqT K H p ys) ∧ Q (.int ys.length) H) [x] os Φ := fun F H vs Q n r c => by
  obtain ⟨v, _, rfl, rv, rfl⟩ := r
  obtain ⟨a, xs, rfl, ea, _, rx⟩ := asT_at hx n rv
  exact ⟨a, xs, rfl, .inr (.inl (.inl ea)), c os _ _ F H h n.self (by rw [rx.length]; rfl)⟩
/-- list(x), tuple(x) -/
theorem wR_listL (hx : SeqL os x ts) (h : Φ os (mkLst ts)) : wR K I (fun xs H Q => ∃ p ys, xs = [.ref p] ∧ (L2.SqL K H p ys ∨ SqT K H p ys) ∧ ∀ l, H l = none → Q (.ref l) (upd H l (.lst ys))) [x] os Φ := fun F H vs Q n r c => by
  obtain ⟨v, _, rfl, rv, rfl⟩ := r
  obtain ⟨a, xs, rfl, ea, rx⟩ := hx.at n rv
  exact ⟨a, xs, rfl, .inl (.inl (.inl ea)), fun p hp => put_lst n hp rx c h⟩
theorem wR_listT (hx : asT x = some ts) (h : Φ os (mkLst ts)) : wR K I (fun xs H Q => ∃ p ys, xs = [.ref p] ∧ (L2.SqL K H p ys ∨ SqT K H p ys) ∧ ∀ l, H l = none → Q (.ref l) (upd H l (.lst ys))) [x] os Φ := fun F H vs Q n r c => by
  obtain ⟨v, _, rfl, rv, rfl⟩ := r
  obtain ⟨a, xs, rfl, ea, _, rx⟩ := asT_at hx n rv
  exact ⟨a, xs, rfl, .inr (.inl (.inl ea)), fun p hp => put_lst n hp rx c h⟩
theorem wR_listLO (hx : SeqL os x ts) (h : ∀ p, Φ (os ++ [(p, .lst ts)]) (.v (.ref p))) : wR K I (fun xs H Q => ∃ p ys, xs = [.ref p] ∧ (L2.SqL K H p ys ∨ SqT K H p ys) ∧ ∀ l, H l = none → Q (.ref l) (upd H l (.lst ys))) [x] os Φ := fun F H vs Q n r c => by
  obtain ⟨v, _, rfl, rv, rfl⟩ := r
  obtain ⟨a, xs, rfl, ea, rx⟩ := hx.at n rv
  exact ⟨a, xs, rfl, .inl (.inl (.inl ea)), fun p hp => own_lst n hp rx c (h p)⟩
theorem wR_tupL (hx : SeqL os x ts) (h : Φ os (mkTup ts)) : wR K I (fun xs H Q => ∃ p ys, xs = [.ref p] ∧ ((L2.SqL K H p ys ∧ ∀ l, H l = none → Q (.ref l) (upd H l (.tup ys))) ∨ (SqT K H p ys ∧ Q (.ref p) H))) [x] os Φ := fun F H vs Q n r c => by
  obtain ⟨v, _, rfl, rv, rfl⟩ := r
  obtain ⟨a, xs, rfl, ea, rx⟩ := hx.at n rv
  exact ⟨a, xs, rfl, .inl ⟨.inl (.inl ea), fun p hp => put_tup n hp rx c h⟩⟩
/-- isinstance(x, C) -/
theorem wR_isi {d : Dat} {cv : V} {u : Value} {b : Bool} (hc : ClsV cv u) (hk : ∀ (H : Hp) (v : V), Rep K H v d → PySem.W.kitOne K d.ty u = some b) (h : Φ os (.d (.bl b))) : wR K I (rIsi K) [.d d, .v cv] os Φ := fun F H vs Q n r c => by
  obtain ⟨v, _, rfl, rv, w, _, rfl, rw', rfl⟩ := r
  cases (show w = cv from rw')
  have rh := Rep.sub n.sub d rv
  exact ⟨v, _, d.ty, u, b, rfl, hc, rh.ty, hk H v rh, c os _ _ F H h n.self rfl⟩
def isLstD : Dat → Bool
  | .lst _ => true
  | _ => false
theorem kit_lst {d : Dat} {v : V} (h : Rep K H v d) : PySem.W.kitOne K d.ty (.type "list") = some (isLstD d) := by
  cases d with
  | obj C a => exact h.2.1.i4
  | _ => first | exact kit_ty (r := true) (by decide +kernel) | exact kit_ty (r := false) (by decide +kernel)
theorem wR_repr {d : Dat} (hf : Fine 100 sizeLine d) (h : Φ os (.d (.str d.py.shown))) : wR K I (rRepr K) [.d d] os Φ := fun F H vs Q n r c => by
  obtain ⟨v, _, rfl, rv, rfl⟩ := r
  exact ⟨v, d, rfl, Rep.sub n.sub d rv, hf, c os _ _ F H h n.self rfl⟩
/-! methods of lists of one's own -/
theorem wY_own {j : Nat} {p : Addr} (hj : os[j]? = some (p, .lst ts)) : wY K I "list" (.v (.ref p)) os := fun F H v n r => by
  cases (show v = .ref p from r)
  obtain ⟨xs, e, rx⟩ := n.wo.ok _ (List.mem_of_getElem? hj)
  exact .inl ⟨rfl, xs, .inl (.inl e)⟩
theorem wM_append {j : Nat} {p : Addr} {t : Tr} (hj : os[j]? = some (p, .lst ts)) (hl : ts.length < sizeLine) (h : Φ (os.set j (p, .lst (ts ++ [t]))) (.d .non)) : wM K I rAppend (.v (.ref p)) [t] os Φ := fun F H v vs Q n r s c => by
  cases (show v = .ref p from r)
  obtain ⟨u, _, rfl, ru, rfl⟩ := s
  obtain ⟨xs, e, rx⟩ := n.wo.ok _ (List.mem_of_getElem? hj)
  have m := n.write (o := .lst (xs ++ [u])) (c' := .lst (ts ++ [t])) hj ⟨_, upd_same, rx.append (.one ru)⟩
  exact ⟨p, xs, u, rfl, rfl, e, by rw [rx.length]; exact hl, c _ _ _ _ _ h m rfl⟩
theorem wM_clear {j : Nat} {p : Addr} (hj : os[j]? = some (p, .lst ts)) (h : Φ (os.set j (p, .lst [])) (.d .non)) : wM K I rClear (.v (.ref p)) [] os Φ := fun F H v vs Q n r s c => by
  cases (show v = .ref p from r)
  cases (show vs = [] from s)
  obtain ⟨xs, e, rx⟩ := n.wo.ok _ (List.mem_of_getElem? hj)
  have m := n.write (o := .lst []) (c' := .lst []) hj ⟨_, upd_same, rfl⟩
  exact ⟨p, xs, rfl, rfl, e, c _ _ _ _ _ h m rfl⟩
theorem wM_insert {j : Nat} {p : Addr} {i : Int} {t : Tr} (hj : os[j]? = some (p, .lst ts)) (hl : ts.length < sizeLine) (h0 : 0 ≤ i) (h1 : i < 2 ^ 63) (h : Φ (os.set j (p, .lst (ts.take i.toNat ++ [t] ++ ts.drop i.toNat))) (.d .non)) :
    wM K I (fun x vs H Q => ∃ (l : Addr) (xs : List V) (i : Int) (y : V), x = .ref l ∧ vs = [.int i, y] ∧ H l = some (.lst xs) ∧ xs.length < sizeLine ∧ 0 ≤ i ∧ i < 2 ^ 63 ∧ Q .non (upd H l (.lst (xs.take i.toNat ++ [y] ++ xs.drop i.toNat)))) (.v (.ref p)) [.d (.int i), t] os Φ := fun F H v vs Q n r s c => by
  cases (show v = .ref p from r)
  obtain ⟨w, _, rfl, rw', u, _, rfl, ru, rfl⟩ := s
  cases (show w = .int i from rw')
  obtain ⟨xs, e, rx⟩ := n.wo.ok _ (List.mem_of_getElem? hj)
  have m := n.write (o := .lst (xs.take i.toNat ++ [u] ++ xs.drop i.toNat)) (c' := .lst (ts.take i.toNat ++ [t] ++ ts.drop i.toNat)) hj ⟨_, upd_same, ((rx.take _).append (.one ru)).append (rx.drop _)⟩
  exact ⟨p, xs, i, u, rfl, rfl, e, by rw [rx.length]; exact hl, h0, h1, c _ _ _ _ _ h m rfl⟩
/-- xs[i] = t -/
theorem wG_set {to ti : TE} {t : Tr} {N : Gm → Os → Prop} (h : wE K I to Γ os fun os1 x => wE K I ti Γ os1 fun os2 y => ∃ (j : Nat) (p : Addr) (us : List Tr) (i : Int) (k : Nat), x = .v (.ref p) ∧ y = .d (.int i) ∧ os2[j]? = some (p, .lst us) ∧
    ixN us.length i = some k ∧ N Γ (os2.set j (p, .lst (us.set k t)))) : wG K I (gSub to ti rSetL) t Γ os N := fun v σ F H Q n e r c => by
  refine h σ F H _ n e fun os1 x o F1 H1 h1 m1 r1 => ?_
  refine h1 σ F1 H1 _ m1.now (e.mono m1.up) fun os2 y w F2 H2 h2 m2 r2 => ?_
  obtain ⟨j, p, us, i, k, rfl, rfl, hj, hk, h3⟩ := h2
  obtain ⟨xs, ex, rx⟩ := m2.now.wo.ok _ (List.mem_of_getElem? hj)
  have m12 := m1.trans m2
  have m := m2.now.write (o := .lst (xs.set k v)) (c' := .lst (us.set k t)) hj ⟨_, upd_same, rx.set k (RepT.mono m12.up _ r)⟩
  exact ⟨p, xs, i, k, r1, r2, ex, by rw [rx.length]; exact hk, c _ _ _ _ _ h3 (m12.trans m) (e.mono (m12.trans m).up)⟩
/-! dicts -/
/-- the pairs of a dict -/
def asK : Tr → Option (List Key × List Tr)
  | .dK ks ts => some (ks, ts)
  | .d (.dct ks ds) => some (ks, ds.map .d)
  | _ => none
def keyK : Tr → Option Key
  | .d (.int i) => some (.inl i)
  | .d (.str s) => some (.inr s)
  | _ => none
def getK {κ : Type} [DecidableEq κ] : List κ → List Tr → κ → Option Tr
  | k :: ks, t :: ts, q => if k = q then some t else getK ks ts q
  | _, _, _ => none
theorem getK_rep {κ : Type} [DecidableEq κ] : ∀ {kvs : List (κ × V)} {ks : List κ} {ts : List Tr} (q : κ), kvs.map (·.1) = ks → RepTs K F (kvs.map (·.2)) ts →
    (∀ t, getK ks ts q = some t → ∃ v, valV kvs q = some v ∧ RepT K F v t) ∧ (getK ks ts q = none → valV kvs q = none)
  | [], ks, ts, q, ek, r => by
    subst ek
    cases ts with
    | nil => exact ⟨fun t h => (nomatch h), fun _ => rfl⟩
    | cons t ts => obtain ⟨_, _, z, _⟩ := r; cases z
  | (k, w) :: kvs, ks, ts, q, ek, r => by
    subst ek
    cases ts with
    | nil => cases (show _ = [] from r)
    | cons t ts =>
      obtain ⟨v', r', z, r1, r2⟩ := r
      rw [List.map_cons] at z
      injection z with z1 z2
      subst z1 z2
      obtain ⟨ih1, ih2⟩ := getK_rep (kvs := kvs) q rfl r2
      show (∀ t', getK (k :: kvs.map (·.1)) (t :: ts) q = some t' → _) ∧ _
      unfold getK valV
      by_cases e : k = q
      · subst e
        simp only [if_true, List.find?_cons, decide_true, Option.map_some, List.map_cons]
        exact ⟨fun t' h => by cases h; exact ⟨_, rfl, r1⟩, fun h => by cases h⟩
      · simp only [List.map_cons, e, if_false, List.find?_cons, decide_false]
        exact ⟨ih1, ih2⟩
theorem asK_rep {p : List Key × List Tr} (h : asK x = some p) (r : RepT K F v x) : ∃ a kvs, v = .ref a ∧ F a = some (.dK kvs) ∧ kvs.map (·.1) = p.1 ∧ RepTs K F (kvs.map (·.2)) p.2 := by
  cases x with
  | dK ks ts => cases h; exact r
  | d x => cases x with
    | dct ks ds => cases h; obtain ⟨a, kvs, e, q, k, s⟩ := r; exact ⟨a, kvs, e, q, k, .of s⟩
    | _ => cases h
  | _ => cases h
theorem keyK_rep {k : Key} (h : keyK x = some k) (r : RepT K F v x) : v = kV k := by
  cases x with
  | d x => cases x with
    | int i => cases h; exact r
    | str i => cases h; exact r
    | _ => cases h
  | _ => cases h
theorem wE_dgetK {td ty : TE} (h : wE K I td Γ os fun os1 x => wE K I ty Γ os1 fun os2 y => ∃ ks ts k t, asK x = some (ks, ts) ∧ keyK y = some k ∧ getK ks ts k = some t ∧ Φ os2 t) : wE K I (tDGet td ty) Γ os Φ := fun σ F H Q n e c => by
  refine h σ F H _ n e fun os1 x v F1 H1 h1 m1 r1 => ?_
  refine h1 σ F1 H1 _ m1.now (e.mono m1.up) fun os2 y w F2 H2 h2 m2 r2 => ?_
  obtain ⟨ks, ts, k, t, hx, hy, ht, h3⟩ := h2
  obtain ⟨a, kvs, rfl, fa, ek, rk⟩ := asK_rep hx r1
  obtain ⟨u, hu, ru⟩ := (getK_rep k ek rk).1 t ht
  cases keyK_rep hy r2
  exact ⟨a, u, rfl, .inl ⟨kvs, k, m2.now.sub.rd (m2.up _ _ fa), rfl, hu.symm⟩, c _ _ _ _ _ h3 (m1.trans m2) (RepT.mono m2.up _ ru)⟩
/-- dicts with tuple keys -/
def keyD1 : Dat → Option Key
  | .int i => some (.inl i)
  | .str x => some (.inr x)
  | _ => none
def keyDs : List Dat → Option (List Key)
  | [] => some []
  | d :: ds => match keyD1 d, keyDs ds with | some k, some r => some (k :: r) | _, _ => none
def keyT : Tr → Option (List Key)
  | .d (.tup ds) => keyDs ds
  | _ => none
theorem keyT_aux : ∀ {ds : List Dat} {k : List Key} {vs : List V}, keyDs ds = some k → RepAll K F vs ds → vs = k.map kV
  | [], k, vs, h, r => by cases h; exact r
  | d :: ds, k, vs, h, r => by
    obtain ⟨v, r', rfl, r1, r2⟩ := r
    unfold keyDs at h
    cases q : keyDs ds with
    | none => rw [q] at h; cases d <;> cases h
    | some k' =>
      rw [q] at h
      have ih := keyT_aux q r2
      subst ih
      cases d with
      | int i => cases h; cases (show v = .int i from r1); rfl
      | str i => cases h; cases (show v = .str i from r1); rfl
      | _ => cases h
theorem keyT_rep {k : List Key} (h : keyT x = some k) (r : RepT K F v x) : ∃ a, v = .ref a ∧ F a = some (.tup (k.map kV)) := by
  cases x with
  | d x => cases x with
    | tup ds =>
      obtain ⟨a, xs, rfl, fa, rx⟩ := r
      rw [keyT_aux h rx] at fa
      exact ⟨a, rfl, fa⟩
    | _ => cases h
  | _ => cases h
theorem keyT_key (k : List Key) : keyT (.d (S.keyDat k)) = some k := by
  unfold keyT S.keyDat
  simp only
  induction k with
  | nil => rfl
  | cons q k ih =>
    rw [List.map_cons, keyDs, ih]
    cases q <;> rfl
theorem wE_dgetT {td ty : TE} (h : wE K I td Γ os fun os1 x => wE K I ty Γ os1 fun os2 y => ∃ ks ts k t, x = .dT ks ts ∧ keyT y = some k ∧ getK ks ts k = some t ∧ Φ os2 t) : wE K I (tDGet td ty) Γ os Φ := fun σ F H Q n e c => by
  refine h σ F H _ n e fun os1 x v F1 H1 h1 m1 r1 => ?_
  refine h1 σ F1 H1 _ m1.now (e.mono m1.up) fun os2 y w F2 H2 h2 m2 r2 => ?_
  obtain ⟨ks, ts, k, t, rfl, hy, ht, h3⟩ := h2
  obtain ⟨a, kvs, rfl, fa, ek, rk⟩ := r1
  obtain ⟨u, hu, ru⟩ := (getK_rep k ek rk).1 t ht
  obtain ⟨b, rfl, fb⟩ := keyT_rep hy r2
  exact ⟨a, u, rfl, .inr ⟨kvs, k, b, m2.now.sub.rd (m2.up _ _ fa), rfl, m2.now.sub.at fb, hu.symm⟩, c _ _ _ _ _ h3 (m1.trans m2) (RepT.mono m2.up _ ru)⟩
theorem wE_dnotInT {td ty : TE} (h : wE K I ty Γ os fun os1 y => wE K I td Γ os1 fun os2 x => ∃ ks ts k, x = .dT ks ts ∧ keyT y = some k ∧ Φ os2 (.d (.bl (!(getK ks ts k).isSome)))) : wE K I (tDNotIn ty td) Γ os Φ := fun σ F H Q n e c => by
  refine h σ F H _ n e fun os1 y w F1 H1 h1 m1 r1 => ?_
  refine h1 σ F1 H1 _ m1.now (e.mono m1.up) fun os2 x v F2 H2 h2 m2 r2 => ?_
  obtain ⟨ks, ts, k, rfl, hy, h3⟩ := h2
  obtain ⟨a, kvs, rfl, fa, ek, rk⟩ := r2
  obtain ⟨g1, g2⟩ := getK_rep (K := K) (F := F2) k ek rk
  obtain ⟨b, rfl, fb⟩ := keyT_rep hy r1
  refine ⟨a, valV kvs k, rfl, .inr ⟨kvs, k, b, m2.now.sub.rd fa, rfl, m2.now.sub.at (m2.up _ _ fb), rfl⟩, c _ _ _ _ _ h3 (m1.trans m2) ?_⟩
  cases q : getK ks ts k with
  | none => rw [g2 q]; rfl
  | some t => obtain ⟨u, e, _⟩ := g1 t q; rw [e]; rfl
end
end Wp

set_option Elab.async false
set_option linter.all false
set_option maxRecDepth 100000
set_option maxHeartbeats 4000000
/-! Promises of defs over trees and cells; calls, methods, fields; comprehensions. -/
namespace Wp
open PySem PySem.Spec PyProof.Rows L2 G D L C Lt
structure Exc where
  C : Addr
  fs : Option (List (Str × Tr))
def RepX (K : PySem.W.Frag) (F H : Hp) (cv : Value) (da : Option Addr) (x : Exc) : Prop := cv = .ref x.C ∧ match x.fs with
  | none => da = none
  | some fs => ∃ d kvs, da = some d ∧ H d = some (.xd kvs) ∧ kvs.map (·.1) = fs.map (·.1) ∧ RepTs K F (kvs.map (·.2)) (fs.map (·.2))
abbrev TF := List Tr → Os → (Os → Tr → Prop) → (Os → Exc → Prop) → Prop
/-- a def's promise, told by trees and cells -/
def spW (K : PySem.W.Frag) (T : TF) : Sp := fun vs H Q E => ∃ F ts os Φ Ψ, Wo K [] F H os ∧ RepTs K F vs ts ∧ T ts os Φ Ψ ∧
  (∀ os' d v F' H', Φ os' d → Stp F H os F' H' os' → Wo K [] F' H' os' → RepT K F' v d → Q v H') ∧
  (∀ os' x cv da F' H', Ψ os' x → Stp F H os F' H' os' → Wo K [] F' H' os' → RepX K F' H' cv da x → E cv da H')
theorem EnvOk.start {K : PySem.W.Frag} {F : Hp} {vs : List V} {ts : List Tr} (r : RepTs K F vs ts) (N : List Str) : EnvOk K F (ts.map some ++ List.replicate (N.length - ts.length) none) (start N vs) := by
  unfold L2.start
  rw [r.length]
  refine ⟨by simp [r.length], fun i t h => ?_⟩
  by_cases q : i < ts.length
  · rw [List.getElem?_append_left (by simpa using q), List.getElem?_map] at h
    cases e : ts[i]? with
    | none => rw [e] at h; cases h
    | some u =>
      rw [e] at h
      cases h
      obtain ⟨v, e1, e2⟩ := r.nth e
      exact ⟨v, by rw [List.getElem?_append_left (by simp [r.length, q]), List.getElem?_map, e1]; rfl, e2⟩
  · rw [List.getElem?_append_right (by simpa using q), List.getElem?_replicate] at h
    split at h <;> cases h
section
variable {P : Program} {w : World} {K : PySem.W.Frag} {mg : Str → Option Value} {base : Heap} {CX : CXT}
/-- a def that no exception leaves, by its body -/
theorem fn_w {x qual : Str} {st : Stmt} {f : Addr} {fd : FuncData} {N ps : List Str} {k : Nat} {T : TF}
    (F : Fun K x qual st f fd) (S : FnScope N ps (defScope st))
    (len : ∀ ts os Φ Ψ, T ts os Φ Ψ → ts.length = ps.length)
    (body : ∀ (cdv : Value) (A : Around) (outer : List Env) (s : Shared) (H : Hp) (E : XK),
      Calm A → Room k (A.deeper (envOfC qual (defScope st) s.heap.objs.size f cdv)) →
      ∃ t, PSs (cxOf CX0 P w K mg base N qual (defScope st) f cdv A outer s H E).nox (defBody st) t ∧
        ∀ I ts os Φ Ψ, I.lk = [] → T ts os Φ Ψ → wS K I t (ts.map some ++ List.replicate (N.length - ts.length) none) os ⟨fun _ os' => Φ os' (.d .non), Φ, fun _ _ => False, fun _ _ => False⟩) :
    Fn P w K mg base CX0 (k + 1) f fd ps (spW K T) := by
  refine fn_calm F S (fun vs H Q E ⟨F0, ts, os, Φ, Ψ, wo, r, h, _⟩ => by rw [r.length]; exact len _ _ _ _ h) fun cdv A outer s H vs Q E hc hr ⟨F0, ts, os, Φ, Ψ, wo, r, h, k1, k2⟩ => ?_
  obtain ⟨t, ht, hw⟩ := body cdv A outer s H E hc hr
  refine ⟨t, ht, hw ⟨[], F0, H, os⟩ ts os Φ Ψ rfl h _ F0 H _ ⟨wo, .refl⟩ (EnvOk.start r N) ⟨fun Γ' os' σ' F' H' p m e => ?_, fun os' d v F' H' p m r' => ?_, fun _ _ _ _ _ p => p.elim, fun _ _ _ _ _ p => p.elim⟩⟩
  · exact k1 _ _ _ _ _ p m.st m.now.wo rfl
  · exact k1 _ _ _ _ _ p m.st m.now.wo r'
end
section
variable {K : PySem.W.Frag} {I : Ini} {Γ : Gm} {os : Os} {Φ : Os → Tr → Prop} {F H F1 H1 : Hp} {os1 : Os} {P : Po} {D : Ends} {Q : VK} {v : V} {x y : Tr} {ts us : List Tr} {T : TF}
variable {t u ta tb tc te : TE} {tt tu : TT} {tr : TA}
theorem perm_spl {α : Type} (oi' ot : List α) (m : Nat) : (oi' ++ ot).Perm (oi'.take m ++ (ot ++ oi'.drop m)) := by
  conv => lhs; rw [← List.take_append_drop m oi']
  rw [List.append_assoc]
  exact List.Perm.append_left _ List.perm_append_comm
/-- a call of such a def: it is given the cells oi -/
theorem wR_W {oi ot : Os} (hl : I.lk = []) (ho : os = oi ++ ot) (h : T ts oi (fun oi' d => Φ (oi'.take oi.length ++ (ot ++ oi'.drop oi.length)) d) fun _ _ => False) : wR K I (fun vs H Q => spW K T vs H Q E0) ts os Φ := fun F H vs Q n r c => by
  have wo := n.wo
  rw [hl, ho] at wo
  have wi : Wo K [] F H oi := ⟨wo.sub, fun c h => wo.out c (List.mem_append_left _ h), fun c h => wo.ok c (List.mem_append_left _ h), by
    have : (adr oi ++ adr ot).Nodup := by have := wo.nd; rwa [adr, List.map_append] at this
    exact (List.nodup_append.mp this).1⟩
  refine ⟨F, ts, oi, _, _, wi, r, h, fun os' d v F' H' p s w r' => ?_, fun _ _ _ _ _ _ p => p.elim⟩
  have m := n.frame (oi := oi) (ot := ot) (oi' := os') (by rw [ho]) s (by rw [hl]; exact w)
  exact c _ d v F' H' p (m.trans (m.now.perm (perm_spl _ _ _))) r'
theorem wR_W0 (hl : I.lk = []) (h : T ts [] (fun oi' d => Φ (os ++ oi') d) fun _ _ => False) : wR K I (fun vs H Q => spW K T vs H Q E0) ts os Φ := wR_W (oi := []) (ot := os) hl rfl h
theorem wR_W1 {c : Addr × Cell} {ot : Os} (hl : I.lk = []) (h : T ts [c] (fun oi' d => Φ (oi'.take 1 ++ (ot ++ oi'.drop 1)) d) fun _ _ => False) : wR K I (fun vs H Q => spW K T vs H Q E0) ts (c :: ot) Φ := wR_W (oi := [c]) (ot := ot) hl rfl h
/-! instances -/
def InsOf (os : Os) (x : Tr) (C : Addr) (ns : List Str) (ts : List Tr) : Prop := x = .ins C ns ts ∨ ∃ (j : Nat) (p : Addr), os[j]? = some (p, .ins C ns ts) ∧ x = .v (.ref p)
theorem InsOf.at {C : Addr} {ns : List Str} (h : InsOf os x C ns ts) (n : Now K I F H os) (r : RepT K F v x) : ∃ a dx fs, v = .ref a ∧ H a = some (.ins C dx fs) ∧ fs.map (·.1) = ns ∧ RepTs K F (fs.map (·.2)) ts := by
  rcases h with rfl | ⟨j, p, h, rfl⟩
  · obtain ⟨a, dx, kvs, e, fa, k, s⟩ := r
    exact ⟨a, dx, kvs, e, n.sub.at fa, k, s⟩
  · obtain ⟨dx, kvs, e, k, s⟩ := n.wo.ok _ (List.mem_of_getElem? h)
    exact ⟨p, dx, kvs, r, e, k, s⟩
theorem lookup_none {fs : List (Str × V)} {m : Str} (h : m ∉ fs.map (·.1)) : fs.lookup m = none := by
  induction fs with
  | nil => rfl
  | cons f fs ih =>
    rw [List.map_cons, List.mem_cons, not_or] at h
    obtain ⟨a, b⟩ := f
    have : (m == a) = false := by simpa using h.1
    rw [List.lookup_cons, this]
    exact ih h.2
theorem lookup_val {m : Str} : ∀ {fs : List (Str × V)}, fs.lookup m = valV fs m
  | [] => rfl
  | (a, b) :: fs => by
    rw [List.lookup_cons, lookup_val (fs := fs)]
    unfold valV
    by_cases e : a = m
    · subst e; simp
    · have : (m == a) = false := by simpa using fun z => e z.symm
      simp [this, e]
theorem wE_fld {f : Str} (h : wE K I ta Γ os fun os1 x => ∃ C ns ts t, InsOf os1 x C ns ts ∧ Cls K C ∧ NoAttr K C f ∧ getK ns ts f = some t ∧ Φ os1 t) : wE K I (tFld K ta f) Γ os Φ := fun σ F H Q n e c => by
  refine h σ F H _ n e fun os1 x v F1 H1 h1 m1 r1 => ?_
  obtain ⟨C, ns, ts, t, hi, cl, na, hg, h1⟩ := h1
  obtain ⟨a, dx, fs, rfl, ea, ek, rk⟩ := hi.at m1.now r1
  obtain ⟨u, hu, ru⟩ := (getK_rep f ek rk).1 t hg
  exact ⟨a, C, dx, fs, u, rfl, ea, cl, na, by rw [lookup_val]; exact hu, c _ _ _ _ _ h1 m1 ru⟩
theorem wE_meth {C : Addr} {m : Str} {sp : Sp} {E : XK} (h : wE K I ta Γ os fun os1 x => (∃ ns ts, InsOf os1 x C ns ts ∧ m ∉ ns) ∧ wA K I tr Γ os1 fun os2 ts => wR K I (fun vs H Q => sp vs H Q E) (x :: ts) os2 Φ) :
    wE K I (tMeth C m sp [] E ta tr) Γ os Φ := fun σ F H Q n e c => by
  refine h σ F H _ n e fun os1 x v F1 H1 h1 m1 r1 => ?_
  obtain ⟨⟨ns, ts, hi, hm⟩, h1⟩ := h1
  obtain ⟨a, dx, fs, rfl, ea, ek, rk⟩ := hi.at m1.now r1
  refine ⟨a, dx, fs, rfl, ea, lookup_none (by rw [ek]; exact hm), h1 σ F1 H1 _ m1.now (e.mono m1.up) fun os2 ts2 vs F2 H2 h2 m2 r2 => ?_⟩
  rw [List.append_nil]
  exact h2 F2 H2 (.ref a :: vs) Q m2.now ⟨_, _, rfl, RepT.mono m2.up _ r1, r2⟩ (c.step (m1.trans m2))
theorem wE_prop {C : Addr} {sp : Sp} {E : XK} (h : wE K I ta Γ os fun os1 x => (∃ ns ts, InsOf os1 x C ns ts) ∧ wR K I (fun vs H Q => sp vs H Q E) [x] os1 Φ) :
    wE K I (tProp C sp [] E ta) Γ os Φ := fun σ F H Q n e c => by
  refine h σ F H _ n e fun os1 x v F1 H1 h1 m1 r1 => ?_
  obtain ⟨⟨ns, ts, hi⟩, h1⟩ := h1
  obtain ⟨a, dx, fs, rfl, ea, ek, rk⟩ := hi.at m1.now r1
  exact ⟨a, dx, fs, rfl, ea, h1 F1 H1 [.ref a] Q m1.now ⟨_, _, rfl, r1, rfl⟩ (c.step m1)⟩
/-- C(..): its __init__ fills a cell; then the instance is changed no more -/
theorem wE_make {C : Addr} (hl : I.lk = []) (h : wA K I tr Γ os fun os1 ts => ∀ p, T (.v (.ref p) :: ts) [(p, .ins C [] [])] (fun oi' d => d = .d .non ∧ ∃ ns us, oi' = [(p, .ins C ns us)] ∧ Φ os1 (.ins C ns us)) fun _ _ => False) :
    wE K I (tMake C (spW K T) [] E0 tr) Γ os Φ := fun σ F H Q n e c => by
  refine h σ F H _ n e fun os1 ts vs F1 H1 h1 m1 r1 => ?_
  intro x dx hx hdx ne
  have m2 := m1.now.grow (same_upd (o := .own x) hdx)
  have hx2 : upd H1 dx (.own x) x = none := by rw [upd_ne ne.symm]; exact hx
  have m3 := m2.now.own (o := .ins C dx []) (c := .ins C [] []) hx2 ⟨dx, [], upd_same, rfl, rfl⟩
  have wo := m3.now.wo
  rw [hl] at wo
  have wi : Wo K [] F1 (upd (upd H1 dx (.own x)) x (.ins C dx [])) [(x, .ins C [] [])] := ⟨wo.sub, fun c h => wo.out c (List.mem_append_right _ h), fun c h => wo.ok c (List.mem_append_right _ h), by simp⟩
  refine ⟨F1, .v (.ref x) :: ts, _, _, _, wi, ⟨_, _, rfl, rfl, by rw [List.append_nil]; exact r1⟩, h1 x, fun os' d v F' H' p s w' r' => ?_, fun _ _ _ _ _ _ p => p.elim⟩
  obtain ⟨rfl, ns, us, rfl, p⟩ := p
  refine ⟨r', ?_⟩
  have m4 := m3.now.frame (oi := [(x, .ins C [] [])]) (ot := os1) List.perm_append_comm s (by rw [hl]; exact w')
  have hj : ([(x, Cell.ins C ns us)] ++ os1)[0]? = some (x, Cell.ins C ns us) := rfl
  obtain ⟨dx', kvs, ex, ek, rk⟩ := m4.now.wo.ok _ (List.mem_of_getElem? hj)
  obtain ⟨m5, s5⟩ := m4.now.freeze hj ex
  exact c _ _ _ _ _ p ((((m1.trans m2).trans m3).trans m4).trans m5) ⟨x, dx', kvs, rfl, upd_same, ek, RepTs.mono s5 _ rk⟩
/-! self.f = e -/
def putT : List Str → List Tr → Str → Tr → List Str × List Tr
  | n :: ns, t :: ts, f, u => if n = f then (n :: ns, u :: ts) else let r := putT ns ts f u; (n :: r.1, t :: r.2)
  | ns, ts, f, u => ([f], [u])
/-! comprehensions -/
def wipeG (Γ : Gm) : List Nat → Gm
  | [] => Γ
  | v :: vs => (wipeG Γ vs).set v none
theorem wipe_env {σ : L2.St} (e : EnvOk K F Γ σ) : ∀ vs : List Nat, EnvOk K F (wipeG Γ vs) (wipe σ vs)
  | [] => e
  | v :: vs => by
    have ih := wipe_env e vs
    unfold wipeG wipe
    refine ⟨by simp [ih.len], fun i t h => ?_⟩
    by_cases q : i = v
    · subst q
      rw [List.getElem?_set_self'] at h
      cases z : (wipeG Γ vs)[i]? with
      | none => rw [z] at h; cases h
      | some _ => rw [z] at h; cases h
    · rw [List.getElem?_set_ne (Ne.symm q)] at h ⊢
      exact ih.at' i t h
theorem wipe_set {σ : L2.St} {i : Nat} {o : Option V} : ∀ {vs : List Nat}, i ∈ vs → wipe (σ.set i o) vs = wipe σ vs
  | v :: vs, h => by
    unfold wipe
    by_cases q : i ∈ vs
    · rw [wipe_set q]
    · have e : i = v := (List.mem_cons.mp h).resolve_right q
      subst e
      have : ∀ ws : List Nat, i ∉ ws → wipe (σ.set i o) ws = (wipe σ ws).set i o := by
        intro ws
        induction ws with
        | nil => intro _; rfl
        | cons w ws ih =>
          intro hw
          rw [List.mem_cons, not_or] at hw
          unfold wipe
          rw [ih hw.2, List.set_comm _ _ hw.1]
      rw [this _ q, List.set_set]
theorem wipe_wipe {σ : L2.St} : ∀ {vs ws : List Nat}, (∀ v ∈ vs, v ∈ ws) → wipe (wipe σ vs) ws = wipe σ ws
  | [], _, _ => rfl
  | v :: vs, ws, h => by
    show wipe ((wipe σ vs).set v none) ws = _
    rw [wipe_set (h v List.mem_cons_self), wipe_wipe fun u hu => h u (List.mem_cons_of_mem _ hu)]
variable (K I) in
/-- the target of a comprehension: it sets its own names alone -/
def wLG (vs : List Nat) (g : TG) (t : Tr) (Γ : Gm) (os : Os) (N : Gm → Prop) : Prop := ∀ v σ F H Q, Now K I F H os → EnvOk K F Γ (wipe σ vs) → RepT K F v t →
  (∀ Γ' σ', N Γ' → EnvOk K F Γ' σ' → wipe σ' vs = wipe σ vs → Q σ' H) → g v (wipe σ vs) H Q
theorem wLG_name {vs : List Nat} {i : Nat} {d : Tr} {N : Gm → Prop} (hi : i ∈ vs := by decide) (k : N (Γ.set i (some d))) : wLG K I vs (gName i) d Γ os N := fun v σ F H Q n e r c =>
  c _ _ k (e.set i r) (by rw [wipe_set hi, wipe_wipe fun _ h => h])
theorem wLG_two {vs : List Nat} {i j : Nat} {d : Tr} {N : Gm → Prop} (hi : i ∈ vs := by decide) (hj : j ∈ vs := by decide) (k : ∃ a b, asT d = some [a, b] ∧ N ((Γ.set i (some a)).set j (some b))) :
    wLG K I vs (gTup K 2 (gCons (gName i) (gCons (gName j) gNil))) d Γ os N := fun v σ F H Q n e r c => by
  obtain ⟨a, b, ed, k⟩ := k
  obtain ⟨p, xs, rfl, ep, fp, va, _, rfl, ra, vb, _, rfl, rb, rfl⟩ := asT_at ed n r
  exact ⟨p, _, rfl, .inl (.inl ep), rfl, va, _, rfl, vb, _, rfl, rfl, c _ _ k ((e.set i ra).set j rb) (by rw [wipe_set hj, wipe_set hi, wipe_wipe fun _ h => h])⟩
theorem wLG_three {vs : List Nat} {i j l : Nat} {d : Tr} {N : Gm → Prop} (hi : i ∈ vs := by decide) (hj : j ∈ vs := by decide) (hl : l ∈ vs := by decide) (k : ∃ a b c, asT d = some [a, b, c] ∧ N (((Γ.set i (some a)).set j (some b)).set l (some c))) :
    wLG K I vs (gTup K 3 (gCons (gName i) (gCons (gName j) (gCons (gName l) gNil)))) d Γ os N := fun v σ F H Q n e r c => by
  obtain ⟨a, b, d', ed, k⟩ := k
  obtain ⟨p, xs, rfl, ep, fp, va, _, rfl, ra, vb, _, rfl, rb, vd, _, rfl, rd, rfl⟩ := asT_at ed n r
  exact ⟨p, _, rfl, .inl (.inl ep), rfl, va, _, rfl, vb, _, rfl, vd, _, rfl, rfl, c _ _ k (((e.set i ra).set j rb).set l rd) (by rw [wipe_set hl, wipe_set hj, wipe_set hi, wipe_wipe fun _ h => h])⟩
variable (K I) in
/-- the turns of a comprehension -/
def LcOk (its : List Tr) (g : TG) (tt : TT) (te : TE) (vs : List Nat) (Γ : Gm) (os1 : Os) (Φ' : Os → List Tr → Prop) : Prop := its.length < sizeLine ∧ ∃ Iv : Nat → Os → List Tr → Prop, Iv 0 os1 [] ∧
      (∀ (i : Nat) (t : Tr) os2 acc, its[i]? = some t → Iv i os2 acc → wLG K I vs g t (wipeG Γ vs) os2 fun Γ2 => wT K I tt Γ2 os2 fun os3 b => (b = true → wE K I te Γ2 os3 fun os4 d => Iv (i + 1) os4 (acc ++ [d])) ∧ (b = false → Iv (i + 1) os3 acc)) ∧
      ∀ os2 acc, Iv its.length os2 acc → Φ' os2 acc
variable (K I) in
/-- what becomes of the new list at the end -/
def LcEnd (Φ' : Os → List Tr → Prop) (Φ : Os → Tr → Prop) : Prop := ∀ os2 acc F2 H2 D xs, Φ' os2 acc → Now K I F2 H2 (os2 ++ [(D, .lst acc)]) → H2 D = some (.lst xs) → RepTs K F2 xs acc →
      ∃ os3 d F3, Φ os3 d ∧ Nxt K I F2 H2 (os2 ++ [(D, .lst acc)]) F3 H2 os3 ∧ RepT K F3 (.ref D) d
theorem lc_core {J : It} {its : List Tr} {g : TG} {vs : List Nat} {Φ' : Os → List Tr → Prop} {σ : L2.St} (fin : LcEnd K I Φ' Φ) (h1 : LcOk K I its g tt te vs Γ os Φ') (n : Now K I F H os) (e : EnvOk K F Γ σ) (gd : Good K I J its F H os) (c : CoE K I F H os Φ Q) :
    ∀ D, H D = none → ∃ W : Nat → Nat → Hp → Prop, (∃ m, W 0 m (upd H D (.lst []))) ∧ ∀ i m H, W i m H →
      (J.stop i H ∧ Q (.ref D) H) ∨ (J.go i H ∧ ∃ Nx : Hp → Prop, (∀ H', Nx H' → ∃ m', m' < m ∧ W (i + 1) m' H') ∧ ∀ x H', J.yld i H x H' → g x (wipe σ vs) H' fun σ2 H2 => wipe σ2 vs = wipe σ vs ∧ tt σ2 H2 fun b H3 =>
        if b = true then te σ2 H3 fun y H4 => ∃ acc, H4 D = some (.lst acc) ∧ acc.length < sizeLine ∧ Nx (upd H4 D (.lst (acc ++ [y]))) else Nx H3) := by
  obtain ⟨hz, Iv, h0, hs, hd⟩ := h1
  obtain ⟨G, Y, wk, hG, hY⟩ := gd.ex
  intro D hD
  have m2 := n.own (o := .lst []) (c := .lst []) hD ⟨[], upd_same, rfl⟩
  refine lc_it wk (fun i H' => ∃ os2 acc F2, Iv i os2 acc ∧ Nxt K I F H os F2 H' (os2 ++ [(D, .lst acc)]) ∧ acc.length ≤ i) ⟨os, [], F, h0, m2, Nat.le_refl _⟩ (fun i H' _ ⟨os2, acc, F2, _, m, _⟩ => hG F2 H' _ m) ?_ ?_
  · rintro i x H' H'' hi ⟨os2, acc, F2, p, m, la⟩ y
    have ht : its[i]? = some its[i] := List.getElem?_eq_getElem hi
    obtain ⟨F3, m3, r3⟩ := hY i _ x F2 H' _ H'' ht m y
    have up3 : Same F F3 := m.up.trans m3.up
    refine hs i _ os2 acc ht p x σ F3 H'' _ m3.now.less (wipe_env (e.mono up3) vs) r3 fun Γ2 σ2 h2 e2 w2 => ⟨w2, ?_⟩
    refine h2 σ2 F3 H'' _ m3.now.less e2 fun os3 b F4 H4 h4 m4 => ?_
    have n4 := m3.now.wide m4
    cases b with
    | false => exact ⟨os3, acc, F4, h4.2 rfl, (m.trans m3).trans n4, Nat.le_succ_of_le la⟩
    | true =>
      refine h4.1 rfl σ2 F4 H4 _ m4.now (e2.mono m4.up) fun os4 d v F5 H5 h5 m5 r5 => ?_
      have n5 := n4.now.wide m5
      have hj : (os4 ++ [(D, Cell.lst acc)])[os4.length]? = some (D, .lst acc) := by simp
      obtain ⟨xs, ex, rx⟩ := n5.now.wo.ok _ (List.mem_of_getElem? hj)
      have m6 := n5.now.write (o := .lst (xs ++ [v])) (c' := .lst (acc ++ [d])) hj ⟨_, upd_same, rx.append (.one r5)⟩
      refine ⟨xs, ex, by rw [rx.length]; omega, os4, acc ++ [d], F5, h5, ?_, by rw [List.length_append]; exact Nat.succ_le_succ la⟩
      have : (os4 ++ [(D, Cell.lst acc)]).set os4.length (D, .lst (acc ++ [d])) = os4 ++ [(D, .lst (acc ++ [d]))] := by simp
      rw [this] at m6
      exact (((m.trans m3).trans n4).trans n5).trans m6
  · rintro H' ⟨os2, acc, F2, p, m, la⟩
    have hj : (os2 ++ [(D, Cell.lst acc)])[os2.length]? = some (D, .lst acc) := by simp
    obtain ⟨xs, ex, rx⟩ := m.now.wo.ok _ (List.mem_of_getElem? hj)
    obtain ⟨os3, d, F3, hp, m7, r7⟩ := fin os2 acc F2 H' D xs (hd _ _ p) m.now ex rx
    exact c os3 d _ F3 H' hp (m.trans m7) r7
/-- [elt for target in iter if test] -/
theorem wE_lcG {wi : TI} {g : TG} {vs : List Nat} {Φ' : Os → List Tr → Prop} (fin : LcEnd K I Φ' Φ) (h : wI K I wi Γ os fun os1 its => LcOk K I its g tt te vs Γ os1 Φ') : wE K I (tLc wi g tt te vs) Γ os Φ := fun σ F H Q n e c =>
  h σ F H _ n e fun J os1 its F1 H1 h1 m1 gd => lc_core fin h1 m1.now (e.mono m1.up) gd (c.step m1)
theorem lc_frozen : LcEnd K I (fun os2 acc => Φ os2 (mkLst acc)) Φ := fun os2 acc F2 H2 D xs p n ex rx => by
    have hj : (os2 ++ [(D, Cell.lst acc)])[os2.length]? = some (D, .lst acc) := by simp
    obtain ⟨m, s⟩ := n.freeze hj ex
    have : (os2 ++ [(D, Cell.lst acc)]).eraseIdx os2.length = os2 := by rw [List.eraseIdx_append_of_length_le (Nat.le_refl _)]; simp
    rw [this] at m
    exact ⟨os2, _, _, p, m, RepT.mkLst ⟨D, xs, rfl, upd_same, RepTs.mono s _ rx⟩⟩
theorem lc_own : LcEnd K I (fun os2 acc => ∀ p, Φ (os2 ++ [(p, .lst acc)]) (.v (.ref p))) Φ := fun os2 acc F2 H2 D xs p n ex rx => ⟨_, _, F2, p D, n.self, rfl⟩
theorem wE_lc {wi : TI} {g : TG} {vs : List Nat} (h : wI K I wi Γ os fun os1 its => LcOk K I its g tt te vs Γ os1 fun os2 acc => Φ os2 (mkLst acc)) : wE K I (tLc wi g tt te vs) Γ os Φ := wE_lcG lc_frozen h
theorem wE_lcO {wi : TI} {g : TG} {vs : List Nat} (h : wI K I wi Γ os fun os1 its => LcOk K I its g tt te vs Γ os1 fun os2 acc => ∀ p, Φ (os2 ++ [(p, .lst acc)]) (.v (.ref p))) : wE K I (tLc wi g tt te vs) Γ os Φ := wE_lcG lc_own h
/-- without a test, each item by itself, no cell touched -/
theorem lc_map {its : List Tr} {g : TG} {vs : List Nat} {Φ' : Os → List Tr → Prop} (hz : its.length < sizeLine) (f : Tr → Tr) (hs : ∀ t ∈ its, wLG K I vs g t (wipeG Γ vs) os fun Γ2 => wE K I te Γ2 os fun os4 d => os4 = os ∧ d = f t) (hd : Φ' os (its.map f)) : LcOk K I its g tYes te vs Γ os Φ' :=
  ⟨hz, fun i os2 acc => os2 = os ∧ acc = (its.take i).map f, ⟨rfl, rfl⟩, fun i t os2 acc ht ⟨e1, e2⟩ => by
    subst e1 e2
    refine fun v σ F H Q n e r k => hs t (List.mem_of_getElem? ht) v σ F H Q n e r fun Γ' σ' p => k Γ' σ' (wT_yes ⟨fun _ => p.weak fun os4 d ⟨a, b⟩ => ⟨a, ?_⟩, fun z => (nomatch z)⟩)
    rw [b, List.take_add_one, ht, List.map_append]; rfl, fun os2 acc ⟨e1, e2⟩ => by subst e1 e2; rw [List.take_length]; exact hd⟩
/-- with a test -/
theorem lc_filt {its : List Tr} {g : TG} {vs : List Nat} {Φ' : Os → List Tr → Prop} (hz : its.length < sizeLine) (q : Tr → Bool) (f : Tr → Tr)
    (hs : ∀ t ∈ its, wLG K I vs g t (wipeG Γ vs) os fun Γ2 => wT K I tt Γ2 os fun os3 b => os3 = os ∧ b = q t ∧ (b = true → wE K I te Γ2 os fun os4 d => os4 = os ∧ d = f t)) (hd : Φ' os ((its.filter q).map f)) : LcOk K I its g tt te vs Γ os Φ' :=
  ⟨hz, fun i os2 acc => os2 = os ∧ acc = ((its.take i).filter q).map f, ⟨rfl, rfl⟩, fun i t os2 acc ht ⟨e1, e2⟩ => by
    subst e1 e2
    refine fun v σ F H Q n e r k => hs t (List.mem_of_getElem? ht) v σ F H Q n e r fun Γ' σ' p => k Γ' σ' ?_
    refine fun σ2 F2 H2 Q2 n2 e2 c2 => p σ2 F2 H2 Q2 n2 e2 fun os3 b F3 H3 ⟨a1, a2, a3⟩ m3 => c2 os3 b F3 H3 ⟨fun hb => ?_, fun hb => ⟨a1, ?_⟩⟩ m3
    · subst a1
      refine (a3 hb).weak fun os4 d ⟨b1, b2⟩ => ⟨b1, ?_⟩
      rw [b2, List.take_add_one, ht]
      simp [← a2, hb]
    · rw [List.take_add_one, ht]
      simp [← a2, hb], fun os2 acc ⟨e1, e2⟩ => by subst e1 e2; rw [List.take_length]; exact hd⟩
end
end Wp

set_option Elab.async false
set_option linter.all false
set_option maxRecDepth 100000
set_option maxHeartbeats 4000000
/-! Dicts: made, walked, put into; sorted rows; calls while a dict is walked. -/
namespace Wp
open PySem PySem.Spec PyProof.Rows L2 G D L C Lt
section
variable {K : PySem.W.Frag} {I : Ini} {Γ : Gm} {os : Os} {Φ : Os → Tr → Prop} {F H F1 H1 : Hp} {os1 : Os} {P : Po} {D : Ends} {Q : VK} {v : V} {x y : Tr} {ts us : List Tr} {T : TF}
variable {t u ta tb tc te td ty tv : TE} {tt tu : TT} {tr : TA}
/-! pairs of trees -/
def putP {κ : Type} [DecidableEq κ] (ps : List (κ × Tr)) (k : κ) (t : Tr) : List (κ × Tr) :=
  if ps.any (fun p => decide (p.1 = k)) then ps.map (fun p => if p.1 = k then (p.1, t) else p) else ps ++ [(k, t)]
def mergeP {κ : Type} [DecidableEq κ] (ps more : List (κ × Tr)) : List (κ × Tr) := more.foldl (fun acc p => putP acc p.1 p.2) ps
def RepP {κ : Type} (K : PySem.W.Frag) (F : Hp) (kvs : List (κ × V)) (ps : List (κ × Tr)) : Prop := kvs.map (·.1) = ps.map (·.1) ∧ RepTs K F (kvs.map (·.2)) (ps.map (·.2))
theorem RepP.cons {κ : Type} {k : κ} {v : V} {t : Tr} {kvs : List (κ × V)} {ps : List (κ × Tr)} (r : RepT K F v t) (h : RepP K F kvs ps) : RepP K F ((k, v) :: kvs) ((k, t) :: ps) :=
  ⟨by rw [List.map_cons, List.map_cons, h.1], ⟨v, _, rfl, r, h.2⟩⟩
theorem RepP.inv {κ : Type} {kv : κ × V} {p : κ × Tr} {kvs : List (κ × V)} {ps : List (κ × Tr)} (h : RepP K F (kv :: kvs) (p :: ps)) : kv.1 = p.1 ∧ RepT K F kv.2 p.2 ∧ RepP K F kvs ps := by
  obtain ⟨h1, v, r, e, h2, h3⟩ := h
  rw [List.map_cons, List.map_cons] at h1
  injection h1 with a b
  rw [List.map_cons] at e
  injection e with e1 e2
  exact ⟨a, e1 ▸ h2, b, e2 ▸ h3⟩
theorem RepP.len {κ : Type} {kvs : List (κ × V)} {ps : List (κ × Tr)} (h : RepP K F kvs ps) : kvs.length = ps.length := by
  have := congrArg List.length h.1
  simpa using this
theorem RepP.any {κ : Type} [DecidableEq κ] (k : κ) : ∀ {kvs : List (κ × V)} {ps : List (κ × Tr)}, RepP K F kvs ps → (kvs.any fun p => decide (p.1 = k)) = ps.any fun p => decide (p.1 = k)
  | [], [], _ => rfl
  | [], _ :: _, h => by have := h.len; cases this
  | _ :: _, [], h => by have := h.len; cases this
  | kv :: kvs, p :: ps, h => by
    obtain ⟨a, _, c⟩ := h.inv
    rw [List.any_cons, List.any_cons, a, c.any k]
theorem RepP.map {κ : Type} [DecidableEq κ] (k : κ) {v : V} {t : Tr} (r : RepT K F v t) : ∀ {kvs : List (κ × V)} {ps : List (κ × Tr)}, RepP K F kvs ps →
    RepP K F (kvs.map fun p => if p.1 = k then (p.1, v) else p) (ps.map fun p => if p.1 = k then (p.1, t) else p)
  | [], [], _ => ⟨rfl, rfl⟩
  | [], _ :: _, h => by have := h.len; cases this
  | _ :: _, [], h => by have := h.len; cases this
  | (a, w) :: kvs, (b, s) :: ps, h => by
    obtain ⟨e, e2, c⟩ := h.inv
    have e : a = b := e
    subst e
    rw [List.map_cons, List.map_cons]
    by_cases q : a = k
    · simp only [q, if_true]; exact .cons r (c.map k r)
    · simp only [q, if_false]; exact .cons e2 (c.map k r)
theorem RepP.app {κ : Type} {kvs kvs' : List (κ × V)} {ps ps' : List (κ × Tr)} (h : RepP K F kvs ps) (h' : RepP K F kvs' ps') : RepP K F (kvs ++ kvs') (ps ++ ps') :=
  ⟨by rw [List.map_append, List.map_append, h.1, h'.1], by rw [List.map_append, List.map_append]; exact h.2.append h'.2⟩
theorem RepP.mono {κ : Type} {kvs : List (κ × V)} {ps : List (κ × Tr)} (h : RepP K F kvs ps) (s : Same F F1) : RepP K F1 kvs ps := ⟨h.1, RepTs.mono s _ h.2⟩
theorem RepP.put {κ : Type} [DecidableEq κ] {kvs : List (κ × V)} {ps : List (κ × Tr)} (h : RepP K F kvs ps) (k : κ) {v : V} {t : Tr} (r : RepT K F v t) : RepP K F (putK kvs k v) (putP ps k t) := by
  unfold putK putP
  rw [h.any k]
  by_cases q : (ps.any fun p => decide (p.1 = k)) = true
  · rw [if_pos q, if_pos q]; exact h.map k r
  · rw [if_neg q, if_neg q]; exact h.app (.cons r ⟨rfl, rfl⟩)
theorem RepP.fold {κ : Type} [DecidableEq κ] : ∀ {more : List (κ × V)} {ps' : List (κ × Tr)} {kvs : List (κ × V)} {ps : List (κ × Tr)}, RepP K F more ps' → RepP K F kvs ps →
    RepP K F (more.foldl (fun acc kv => putK acc kv.1 kv.2) kvs) (mergeP ps ps')
  | [], [], _, _, _, h => h
  | [], _ :: _, _, _, h', _ => by have := h'.len; cases this
  | _ :: _, [], _, _, h', _ => by have := h'.len; cases this
  | kv :: more, p :: ps', _, _, h', h => by
    obtain ⟨e, r, c⟩ := h'.inv
    show RepP K F (more.foldl _ (putK _ kv.1 kv.2)) (mergeP (putP _ p.1 p.2) ps')
    rw [e]
    exact RepP.fold c (h.put p.1 r)
theorem RepP.nil {κ : Type} : RepP K F ([] : List (κ × V)) ([] : List (κ × Tr)) := ⟨rfl, rfl⟩
/-- a dict of pairs -/
def mkK (ps : List (Key × Tr)) : Tr := .dK (ps.map (·.1)) (ps.map (·.2))
def mkT (ps : List (List Key × Tr)) : Tr := .dT (ps.map (·.1)) (ps.map (·.2))
theorem RepP.dK {kvs : List (Key × V)} {ps : List (Key × Tr)} {p : Addr} (h : RepP K F kvs ps) (hp : F p = some (.dK kvs)) : RepT K F (.ref p) (mkK ps) := ⟨p, kvs, rfl, hp, h.1, h.2⟩
theorem RepP.dT {kvs : List (List Key × V)} {ps : List (List Key × Tr)} {p : Addr} (h : RepP K F kvs ps) (hp : F p = some (.dT kvs)) : RepT K F (.ref p) (mkT ps) := ⟨p, kvs, rfl, hp, h.1, h.2⟩
/-- a row of pairs -/
def asPair (t : Tr) : Option (Key × Tr) := match asT t with
  | some [a, b] => match keyK a with | some k => some (k, b) | none => none
  | _ => none
def asPairT (t : Tr) : Option (List Key × Tr) := match asT t with
  | some [a, b] => match keyT a with | some k => some (k, b) | none => none
  | _ => none
def asPairs : List Tr → Option (List (Key × Tr))
  | [] => some []
  | t :: ts => match asPair t, asPairs ts with | some p, some r => some (p :: r) | _, _ => none
def asPairsT : List Tr → Option (List (List Key × Tr))
  | [] => some []
  | t :: ts => match asPairT t, asPairsT ts with | some p, some r => some (p :: r) | _, _ => none
theorem pairs_rep (n : Now K I F H os) : ∀ {ts : List Tr} {vs : List V} {ps : List (Key × Tr)}, asPairs ts = some ps → RepTs K F vs ts →
    ∃ (as : List Addr) (kvs : List (Key × V)), vs = as.map V.ref ∧ Paired (fun p kv => SqT K H p [kV kv.1, kv.2]) as kvs ∧ RepP K F kvs ps
  | [], vs, ps, e, r => by cases e; exact ⟨[], [], r, .nil, rfl, rfl⟩
  | t :: ts, vs, ps, e, r => by
    obtain ⟨v, vs', rfl, r1, r2⟩ := r
    unfold asPairs at e
    cases q1 : asPair t with
    | none => rw [q1] at e; cases e
    | some p1 =>
      cases q2 : asPairs ts with
      | none => rw [q1, q2] at e; cases e
      | some pr =>
        rw [q1, q2] at e
        cases e
        obtain ⟨as, kvs, rfl, h1, h2⟩ := pairs_rep n q2 r2
        unfold asPair at q1
        split at q1
        · rename_i a b ea
          split at q1
          · rename_i k ek
            cases q1
            obtain ⟨p, xs, rfl, ep, fp, va, _, rfl, ra, vb, _, rfl, rb, rfl⟩ := asT_at ea n r1
            cases keyK_rep ek ra
            exact ⟨p :: as, (k, vb) :: kvs, rfl, .cons (.inl (.inl ep)) h1, .cons rb h2⟩
          · cases q1
        · cases q1
theorem pairsT_rep (n : Now K I F H os) : ∀ {ts : List Tr} {vs : List V} {ps : List (List Key × Tr)}, asPairsT ts = some ps → RepTs K F vs ts →
    ∃ (as : List Addr) (kvs : List (List Key × V)), vs = as.map V.ref ∧ Paired (De.PairT K H) as kvs ∧ RepP K F kvs ps
  | [], vs, ps, e, r => by cases e; exact ⟨[], [], r, .nil, rfl, rfl⟩
  | t :: ts, vs, ps, e, r => by
    obtain ⟨v, vs', rfl, r1, r2⟩ := r
    unfold asPairsT at e
    cases q1 : asPairT t with
    | none => rw [q1] at e; cases e
    | some p1 =>
      cases q2 : asPairsT ts with
      | none => rw [q1, q2] at e; cases e
      | some pr =>
        rw [q1, q2] at e
        cases e
        obtain ⟨as, kvs, rfl, h1, h2⟩ := pairsT_rep n q2 r2
        unfold asPairT at q1
        split at q1
        · rename_i a b ea
          split at q1
          · rename_i k ek
            cases q1
            obtain ⟨p, xs, rfl, ep, fp, va, _, rfl, ra, vb, _, rfl, rb, rfl⟩ := asT_at ea n r1
            obtain ⟨c, rfl, fc⟩ := keyT_rep ek ra
            exact ⟨p :: as, (k, vb) :: kvs, rfl, .cons ⟨c, .inl (.inl ep), n.sub.at fc⟩ h1, .cons rb h2⟩
          · cases q1
        · cases q1
theorem wR_dictP {ps : List (Key × Tr)} (hx : SeqL os x ts) (hp : asPairs ts = some ps) (h : Φ os (mkK (mergeP [] ps))) :
    wR K I (fun xs H Q => ∃ (a : Addr) (ps : List Addr) (kvs : List (Key × V)), xs = [.ref a] ∧ L2.SqL K H a (ps.map V.ref) ∧ Paired (fun p kv => SqT K H p [kV kv.1, kv.2]) ps kvs ∧ ∀ p, H p = none → Q (.ref p) (upd H p (.dK (mergeK [] kvs)))) [x] os Φ := fun F H vs Q n r c => by
  obtain ⟨v, _, rfl, rv, rfl⟩ := r
  obtain ⟨a, xs, rfl, ea, rx⟩ := hx.at n rv
  obtain ⟨as, kvs, rfl, h1, h2⟩ := pairs_rep n hp rx
  refine ⟨a, as, kvs, rfl, .inl (.inl ea), h1, fun p hp => ?_⟩
  obtain ⟨m, s⟩ := n.put (o := .dK (mergeK [] kvs)) hp
  exact c _ _ _ _ _ h m (RepP.dK ((RepP.fold h2 .nil).mono s) upd_same)
theorem wR_dictPT {ps : List (List Key × Tr)} (hx : SeqL os x ts) (hp : asPairsT ts = some ps) (h : Φ os (mkT (mergeP [] ps))) : wR K I (De.rDictPT K) [x] os Φ := fun F H vs Q n r c => by
  obtain ⟨v, _, rfl, rv, rfl⟩ := r
  obtain ⟨a, xs, rfl, ea, rx⟩ := hx.at n rv
  obtain ⟨as, kvs, rfl, h1, h2⟩ := pairsT_rep n hp rx
  refine ⟨a, as, kvs, rfl, .inl (.inl ea), h1, fun p hp => ?_⟩
  obtain ⟨m, s⟩ := n.put (o := .dT (De.mergeT [] kvs)) hp
  exact c _ _ _ _ _ h m (RepP.dT ((RepP.fold h2 .nil).mono s) upd_same)
/-! list(d.items()) -/
def kD : Key → Dat
  | .inl i => .int i
  | .inr s => .str s
theorem kD_rep (k : Key) : Rep K F (kV k) (kD k) := by cases k <;> rfl
theorem put_pairs : ∀ {as : List Addr} {kvs : List (Key × V)} {ps : List (Key × Tr)} {H2 : Hp}, Same F F1 → RepP K F kvs ps → Paired (fun (t : Addr) (q : Key × V) => H2 t = some (.tup [kV q.1, q.2])) as kvs →
    (∀ p xs, H2 p = some (.tup xs) → F1 p = some (.tup xs)) → RepTs K F1 (as.map V.ref) (ps.map fun p => mkTup [.d (kD p.1), p.2])
  | [], [], [], _, _, _, _, _ => rfl
  | [], [], _ :: _, _, _, h, _, _ => by have := h.len; cases this
  | a :: as, kv :: kvs, [], _, _, h, _, _ => by have := h.len; cases this
  | a :: as, kv :: kvs, p :: ps, H2, s, h, .cons h1 h2, f => by
    obtain ⟨e, r, c⟩ := h.inv
    refine ⟨.ref a, _, rfl, RepT.mkTup ⟨a, _, rfl, f _ _ h1, _, _, rfl, ?_, _, _, rfl, RepT.mono s _ r, rfl⟩, put_pairs s c h2 f⟩
    rw [e]; exact kD_rep _
theorem wE_items (h : wE K I ta Γ os fun os1 x => ∃ ks ts, asK x = some (ks, ts) ∧ ks.length = ts.length ∧ Φ os1 (mkLst ((ks.zip ts).map fun p => mkTup [.d (kD p.1), p.2]))) : wE K I (LiI.tListItems ta) Γ os Φ := fun σ F H Q n e c => by
  refine h σ F H _ n e fun os1 x v F1 H1 h1 m1 r1 => ?_
  obtain ⟨ks, ts, ex, el, h1⟩ := h1
  obtain ⟨a, kvs, rfl, fa, ek, rk⟩ := asK_rep ex r1
  refine ⟨a, kvs, rfl, m1.now.sub.at fa, fun H' p as sH hp has npa ep pr => ?_⟩
  let F2 : Hp := fun y => if (H1 y).isSome then F1 y else match H' y with | some (.tup xs) => some (.tup xs) | some (.lst xs) => if y = p then some (.lst xs) else none | _ => none
  have sF : Same F1 F2 := fun y o ey => by
    obtain ⟨u, hu⟩ := m1.now.sub.there ey
    show (if (H1 y).isSome then F1 y else _) = _
    rw [hu]; exact ey
  have inF : ∀ y o, F2 y = some o → F1 y = some o ∨ H1 y = none ∧ H' y = some o := fun y o ey => by
    have ey : (if (H1 y).isSome then F1 y else match H' y with | some (.tup xs) => some (.tup xs) | some (.lst xs) => if y = p then some (.lst xs) else none | _ => none) = some o := ey
    split at ey
    · exact .inl ey
    · rename_i q
      refine .inr ⟨by simpa using q, ?_⟩
      split at ey
      · rename_i xs q2; rw [q2]; exact ey
      · rename_i xs q2
        split at ey
        · rw [q2]; exact ey
        · cases ey
      · cases ey
  have m2 := m1.now.ext sF (fun y o ey => ?_) sH (fun y o ey => (inF y o ey).imp id fun z => .inl z.1)
  · have fresh : ∀ t, H1 t = none → ∀ xs, H' t = some (.tup xs) → F2 t = some (.tup xs) := fun t ht xs e2 => by
      show (if (H1 t).isSome then F1 t else match H' t with | some (.tup xs) => some (.tup xs) | some (.lst xs) => if t = p then some (.lst xs) else none | _ => none) = _
      rw [ht, e2]; rfl
    have fp : F2 p = some (.lst (as.map V.ref)) := by
      show (if (H1 p).isSome then F1 p else match H' p with | some (.tup xs) => some (.tup xs) | some (.lst xs) => if p = p then some (.lst xs) else none | _ => none) = _
      rw [hp, ep]; simp
    have rp : RepP K F1 kvs (ks.zip ts) := ⟨by rw [List.map_fst_zip (Nat.le_of_eq el)]; exact ek, by rw [List.map_snd_zip (Nat.le_of_eq el.symm)]; exact rk⟩
    have pr2 : ∀ {as : List Addr} {kvs : List (Key × V)}, (∀ t ∈ as, H1 t = none) → Paired (fun (t : Addr) (q : Key × V) => H' t = some (.tup [kV q.1, q.2])) as kvs → Paired (fun (t : Addr) (q : Key × V) => F2 t = some (.tup [kV q.1, q.2])) as kvs := by
      intro as kvs ha h
      induction h with
      | nil => exact .nil
      | cons a b ih => exact .cons (fresh _ (ha _ List.mem_cons_self) _ a) (ih fun t ht => ha t (List.mem_cons_of_mem _ ht))
    exact c _ _ _ _ _ h1 (m1.trans m2) (RepT.mkLst ⟨p, _, rfl, fp, put_pairs sF rp (pr2 has pr) fun _ _ e => e⟩)
  · rcases inF y o ey with z | ⟨_, z⟩
    · rcases m1.now.sub y o z with w | ⟨l, k, ob, z1, z2⟩
      · exact .inl (sH _ _ w)
      · exact .inr ⟨l, k, ob, z1, sH _ _ z2⟩
    · exact .inl z
/-! a dict of one's own is put into -/
def cellK (c : Cell) : Option (List (Key × Tr)) := match c with
  | .dK ks ts => if ks.length = ts.length then some (ks.zip ts) else none
  | _ => none
/-! sorted rows -/
theorem Now.tups (n : Now K I F H os) : ∀ {ks : List (List Key)} {ys : List V}, RepAll K H ys (ks.map S.keyDat) → ∃ F1, Nxt K I F H os F1 H os ∧ RepAll K F1 ys (ks.map S.keyDat)
  | [], ys, r => ⟨F, n.self, r⟩
  | k :: ks, ys, r => by
    obtain ⟨v, ys', rfl, r1, r2⟩ := r
    obtain ⟨F1, m1, h1⟩ := n.tups r2
    obtain ⟨a, rfl, ea⟩ := S.key_rep r1
    obtain ⟨F2, m2, s2, f2⟩ := m1.now.tup ea
    exact ⟨F2, m1.trans m2, _, _, rfl, S.rep_key f2, RepAll.mono s2 _ h1⟩
mutual
theorem Rep.via {G : Hp} (h : ∀ b o, F b = some o → (∀ kvs, o ≠ .dT kvs) → G b = some o) : ∀ (d : Dat) {v : V}, Rep K F v d → Rep K G v d
  | .non, _, r => r
  | .bl _, _, r => r
  | .int _, _, r => r
  | .str _, _, r => r
  | .lst ds, _, ⟨a, xs, e, q, r⟩ => ⟨a, xs, e, h _ _ q (fun _ z => by cases z), RepAll.via h ds r⟩
  | .tup ds, _, ⟨a, xs, e, q, r⟩ => ⟨a, xs, e, h _ _ q (fun _ z => by cases z), RepAll.via h ds r⟩
  | .dct _ ds, _, ⟨a, kvs, e, q, k, r⟩ => ⟨a, kvs, e, h _ _ q (fun _ z => by cases z), k, RepAll.via h ds r⟩
  | .obj _ _, _, ⟨e, o, dx, fs, q⟩ => ⟨e, o, dx, fs, h _ _ q (fun _ z => by cases z)⟩
theorem RepAll.via {G : Hp} (h : ∀ b o, F b = some o → (∀ kvs, o ≠ .dT kvs) → G b = some o) : ∀ (ds : List Dat) {vs : List V}, RepAll K F vs ds → RepAll K G vs ds
  | [], _, r => r
  | d :: ds, _, ⟨v, r, e, q, t⟩ => ⟨v, r, e, Rep.via h d q, RepAll.via h ds t⟩
end
/-- without the dicts that may be locked -/
def noT (F : Hp) : Hp := fun y => match F y with | some (.dT _) => none | o => o
theorem noT_to {b : Addr} {o : HO} (h : F b = some o) (n : ∀ kvs, o ≠ .dT kvs) : noT F b = some o := by
  unfold noT
  rw [h]
  cases o <;> first | rfl | exact absurd rfl (n _)
theorem noT_in {b : Addr} {o : HO} (h : noT F b = some o) : F b = some o ∧ ∀ kvs, o ≠ .dT kvs := by
  unfold noT at h
  split at h
  · cases h
  · rename_i q
    exact ⟨h, fun kvs z => q kvs (by rw [h, z])⟩
theorem noT_same (n : Now K I F H os) : Same (noT F) H := fun y o e => n.sub.at (noT_in e).1 (noT_in e).2
theorem noT_up : Same (noT F) F := fun y o e => (noT_in e).1
theorem wR_sorted {ds : List Dat} (hx : SeqL os x (ds.map .d)) (ho : S.Ord ds) (h : Φ os (.d (.lst (S.sortD ds)))) : wR K I (S.rSortedA K) [x] os Φ := fun F H vs Q n r c => by
  obtain ⟨v, _, rfl, rv, rfl⟩ := r
  obtain ⟨a, xs, rfl, ea, rx⟩ := hx.at n rv
  refine ⟨a, xs, ds, noT F, rfl, .inl ea, noT_same n, RepAll.via (fun _ _ h n => noT_to h n) _ rx.all, ho, fun p ys hp rs _ => ?_⟩
  have := put_lst (Φ := Φ) (ts := (S.sortD ds).map .d) n hp (.of (RepAll.mono noT_up _ rs)) c (by rw [mkLst_d]; exact h)
  exact this
/-- sorted(..) of a dict with tuple keys -/
theorem wR_sortedT {ks : List (List Key)} (ho : S.Ord (ks.map S.keyDat)) (h : ∀ ks' : List (List Key), ks'.Perm ks → S.sortD (ks.map S.keyDat) = ks'.map S.keyDat → Φ os (.d (.lst (ks'.map S.keyDat)))) : wR K I (S.rSortedT K) [.dT ks ts] os Φ := fun F H vs Q n r c => by
  obtain ⟨v, _, rfl, ⟨a, kvs, rfl, fa, ek, rk⟩, rfl⟩ := r
  have ek2 : (kvs.map fun p => S.keyDat p.1) = ks.map S.keyDat := by rw [← ek, List.map_map]; rfl
  refine ⟨a, kvs, rfl, n.sub.rd fa, by rw [ek2]; exact ho, fun p ys hp rs _ => ?_⟩
  rw [ek2] at rs
  obtain ⟨ks', e1, pm⟩ : ∃ ks' : List (List Key), S.sortD (ks.map S.keyDat) = ks'.map S.keyDat ∧ ks'.Perm ks := by
    have : ∀ {l m : List Dat}, l.Perm m → ∀ ks : List (List Key), m = ks.map S.keyDat → ∃ ks' : List (List Key), l = ks'.map S.keyDat ∧ ks'.Perm ks := by
      intro l m h
      induction h with
      | nil => intro ks e; cases ks with | nil => exact ⟨[], rfl, .refl _⟩ | cons _ _ => cases e
      | cons x _ ih =>
        intro ks e
        cases ks with
        | nil => cases e
        | cons k ks =>
          injection e with e1 e2
          obtain ⟨ks', e3, p⟩ := ih ks e2
          exact ⟨k :: ks', by rw [e1, e3]; rfl, p.cons k⟩
      | swap x y l =>
        intro ks e
        match ks, e with
        | a :: b :: ks, e =>
          injection e with e1 e2
          injection e2 with e2 e3
          exact ⟨b :: a :: ks, by rw [e1, e2, e3]; rfl, .swap _ _ _⟩
      | trans _ _ ih1 ih2 =>
        intro ks e
        obtain ⟨k1, e1, p1⟩ := ih2 ks e
        obtain ⟨k2, e2, p2⟩ := ih1 k1 e1
        exact ⟨k2, e2, p2.trans p1⟩
    exact this (List.mergeSort_perm _ _) ks rfl
  rw [e1] at rs
  obtain ⟨F1, m1, r1⟩ := n.tups rs
  have := put_lst (Φ := Φ) (ts := (ks'.map S.keyDat).map .d) m1.now hp (.of r1) (c.step m1) (by rw [mkLst_d]; exact h ks' pm e1)
  exact this
/-! walking the keys of a dict -/
/-- what an expression reads off what never changes -/
def Lk (td : TE) (σ : L2.St) (F : Hp) (v : V) : Prop := ∀ lk H Q, Sub lk F H → Q v H → td σ H Q
variable (K) in
def wK (td : TE) (Γ : Gm) (x : Tr) : Prop := ∀ σ F, EnvOk K F Γ σ → ∃ v, RepT K F v x ∧ Lk td σ F v
theorem wK_var {i : Nat} (h : Γ[i]? = some (some x)) : wK K (tVar i) Γ x := fun σ F e => by
  obtain ⟨v, a, b⟩ := e.at' i x h
  exact ⟨v, b, fun lk H Q s q => ⟨v, a, q⟩⟩
theorem wK_get {ks : List Key} {s : Str} (h : wK K td Γ y) (hy : asK y = some (ks, ts)) (hg : getK ks ts (.inr s) = some x) : wK K (tDGet td (tC (.str s))) Γ x := fun σ F e => by
  obtain ⟨v, r, l⟩ := h σ F e
  obtain ⟨a, kvs, rfl, fa, ek, rk⟩ := asK_rep hy r
  obtain ⟨u, hu, ru⟩ := (getK_rep (.inr s) ek rk).1 x hg
  exact ⟨u, ru, fun lk H Q sb q => l lk H _ sb ⟨a, u, rfl, .inl ⟨kvs, .inr s, sb.rd fa, rfl, hu.symm⟩, q⟩⟩
theorem wK_fld {C : Addr} {f : Str} {ns : List Str} (h : wK K td Γ (.ins C ns ts)) (cl : Cls K C) (na : NoAttr K C f) (hg : getK ns ts f = some x) : wK K (tFld K td f) Γ x := fun σ F e => by
  obtain ⟨v, ⟨a, dx, kvs, rfl, fa, ek, rk⟩, l⟩ := h σ F e
  obtain ⟨u, hu, ru⟩ := (getK_rep f ek rk).1 x hg
  exact ⟨u, ru, fun lk H Q sb q => l lk H _ sb ⟨a, C, dx, kvs, u, rfl, sb.at fa, cl, na, by rw [lookup_val]; exact hu, q⟩⟩
theorem lock_now {d : Addr} {kvs : List (List Key × V)} {od : Obj} (n : Now K I F H os) (hl : I.lk = []) (fd : F d = some (.dT kvs)) :
    H d = some (.dT kvs) ∧ Now K ⟨[d], F, upd H d (.frz od (.dT kvs)), os⟩ F (upd H d (.frz od (.dT kvs))) os := by
  have sm : Same F H := by have := n.sub; rw [hl] at this; exact this.same
  have sb : Sub [d] F (upd H d (.frz od (.dT kvs))) := fun y o e => by
    by_cases q : y = d
    · subst q
      rw [fd] at e
      cases e
      exact .inr ⟨List.mem_singleton.mpr rfl, kvs, od, rfl, upd_same⟩
    · rw [upd_ne q]; exact .inl (sm _ _ e)
  refine ⟨sm _ _ fd, ⟨⟨sb, n.wo.out, fun c h => (n.wo.ok c h).keep (fun o e => ?_) (.refl _) n.sub sb, n.wo.nd⟩, .refl⟩⟩
  rw [upd_ne (fun z => by have := n.wo.out c h; rw [z, fd] at this; cases this)]
  exact e
theorem unlock_now {d : Addr} {kvs : List (List Key × V)} {od : Obj} (n : Now K I F H os) (hl : I.lk = []) (fd : F d = some (.dT kvs))
    (m : Nxt K ⟨[d], F, upd H d (.frz od (.dT kvs)), os⟩ F (upd H d (.frz od (.dT kvs))) os F1 H1 os1) : H1 d = some (.frz od (.dT kvs)) ∧ Nxt K I F H os F1 (upd H1 d (.dT kvs)) os1 := by
  have hd : H d = some (.dT kvs) := (lock_now (od := od) n hl fd).1
  have nd : d ∉ adr os := fun z => by rw [n.wo.none z] at fd; cases fd
  have f1 : F1 d = some (.dT kvs) := m.up _ _ fd
  have sb : Sub I.lk F1 (upd H1 d (.dT kvs)) := fun y o e => by
    by_cases q : y = d
    · subst q
      rw [f1] at e
      cases e
      exact .inl upd_same
    · rw [upd_ne q]
      rcases m.now.sub y o e with z | ⟨z, _⟩
      · exact .inl z
      · exact absurd (List.mem_singleton.mp z) q
  refine ⟨m.st.but _ _ nd upd_same, n.nxt ⟨sb, m.now.wo.out, fun c h => (m.now.wo.ok c h).keep (fun o e => ?_) (.refl _) m.now.sub sb, m.now.wo.nd⟩ ⟨m.up, fun y o ny e => ?_, fun y o e => ?_, fun a h => ?_⟩⟩
  · rw [upd_ne (fun z => by have := m.now.wo.out c h; rw [z, f1] at this; cases this)]
    exact e
  · by_cases q : y = d
    · subst q; rw [hd] at e; cases e; exact upd_same
    · rw [upd_ne q]
      exact m.st.but y o ny (by rw [upd_ne q]; exact e)
  · rcases m.st.new y o e with z | z | z
    · exact .inl z
    · refine .inr (.inl ?_)
      by_cases q : y = d
      · subst q; rw [upd_same] at z; cases z
      · rw [upd_ne q] at z; exact z
    · exact .inr (.inr z)
  · rcases m.st.adr' a h with z | z
    · exact .inl z
    · refine .inr ?_
      by_cases q : a = d
      · subst q; rw [upd_same] at z; cases z
      · rw [upd_ne q] at z; exact z
theorem good_keysT {d : Addr} {kvs : List (List Key × V)} {od : Obj} {ks : List (List Key)} (ek : kvs.map (·.1) = ks) (hd : H d = some (.frz od (.dT kvs))) (nd : d ∉ adr os) :
    Good K I (Itkt d od kvs) (ks.map fun k => .d (S.keyDat k)) F H os := by
  refine ⟨_, _, (show Walk _ (ks.map fun k => Tr.d (S.keyDat k)).length _ _ from by rw [List.length_map, ← ek, List.length_map]; exact walk_keysT), fun F' H' os' m => m.st.but _ _ nd hd, fun i t x F' H' os' H'' ht m y => ?_⟩
  obtain ⟨rfl, k, w, q, hk, rfl, hq⟩ := y
  obtain ⟨F2, m2, s2, f2⟩ := m.now.tup hq
  have : t = .d (S.keyDat k) := by
    rw [← ek, List.map_map, List.getElem?_map, hk] at ht
    cases ht; rfl
  subst this
  exact ⟨F2, m2, S.rep_key f2⟩
/-- a comprehension over the keys of a dict -/
theorem wE_lockT {ks : List (List Key)} {g : TG} {vs : List Nat} {Φ' : Os → List Tr → Prop} (hl : I.lk = []) (hk : wK K td Γ (.dT ks ts)) (fin : ∀ I', LcEnd K I' Φ' Φ) (h : ∀ I', LcOk K I' (ks.map fun k => .d (S.keyDat k)) g tt te vs Γ os Φ') :
    wE K I (tLockE (tLc (iKeys td) g tt te vs)) Γ os Φ := fun σ F H Q n e c => by
  obtain ⟨v, ⟨d, kvs, rfl, fd, ek, rk⟩, l⟩ := hk σ F e
  have hd := (lock_now (od := default) n hl fd).1
  refine ⟨d, .dT kvs, hd, True.intro, fun od => ?_⟩
  obtain ⟨_, n1⟩ := lock_now (od := od) n hl fd
  have nd : d ∉ adr os := fun z => by rw [n.wo.none z] at fd; cases fd
  refine l _ _ _ n1.sub ⟨d, od, rfl, .inr ⟨kvs, upd_same, ?_⟩⟩
  exact lc_core (Q := fun v H' => H' d = some (.frz od (.dT kvs)) ∧ Q v (upd H' d (.dT kvs))) (fin _) (h _) n1 e (good_keysT ek upd_same nd) fun os' d' v F' H' p m r => by
    obtain ⟨hd', m'⟩ := unlock_now n hl fd m
    exact ⟨hd', c _ _ _ _ _ p m' r⟩
theorem wE_keysT {ks : List (List Key)} {g : TG} {vs : List Nat} (hl : I.lk = []) (hk : wK K td Γ (.dT ks ts)) (h : ∀ I', LcOk K I' (ks.map fun k => .d (S.keyDat k)) g tt te vs Γ os fun os2 acc => Φ os2 (mkLst acc)) : wE K I (tLockE (tLc (iKeys td) g tt te vs)) Γ os Φ :=
  wE_lockT hl hk (fun _ => lc_frozen) h
end
end Wp

set_option Elab.async false
set_option linter.all false
set_option maxRecDepth 100000
set_option maxHeartbeats 4000000
/-! Older promises, told by trees and cells. -/
namespace Wp
open PySem PySem.Spec PyProof.Rows L2 G D L C Lt
open Fz (Go)
section
variable {K : PySem.W.Frag} {F H F' H' : Hp} {b : Addr}
theorem bag_step (w : Wo K [] F H [(b, .bag)]) (s : SameBut b H H') (g : BagTo H H' b) : Stp F H [(b, .bag)] F H' [(b, .bag)] ∧ Wo K [] F H' [(b, .bag)] := by
  have fb : F b = none := w.out (b, .bag) List.mem_cons_self
  obtain ⟨l, o, q, hl⟩ := w.ok (b, .bag) List.mem_cons_self
  obtain ⟨l', q1, q2⟩ := g
  rw [← q.one q1] at q2
  refine ⟨⟨.refl _, fun y o ny e => s y o (fun z => ny (by simp [z])) e, fun y o e => .inl e, fun a h => .inl h⟩, ⟨.of (s.from w.sub.same fb), fun c h => ?_, fun c h => ?_, by simp⟩⟩
  · rw [List.mem_singleton] at h; subst h; exact fb
  · rw [List.mem_singleton] at h; subst h; exact ⟨l, o, q2, hl⟩
theorem bag_fr (w : Wo K [] F H [(b, .bag)]) : Fz.Fr F H b := by
  obtain ⟨l, o, q, hl⟩ := w.ok (b, .bag) List.mem_cons_self
  exact ⟨w.sub.same, w.out (b, .bag) List.mem_cons_self, l, o, q, hl⟩
theorem go_step (g : Go b F H F' H') : Stp F H [(b, .bag)] F' H' [(b, .bag)] ∧ Wo K [] F' H' [(b, .bag)] := by
  refine ⟨⟨g.up, fun y o ny e => g.but y o (fun z => ny (by simp [z])) e, fun y o e => (g.new y o e).imp id .inl, fun a h => .inl h⟩, ⟨.of g.same, fun c h => ?_, fun c h => ?_, by simp⟩⟩
  · rw [List.mem_singleton] at h; subst h; exact g.out
  · rw [List.mem_singleton] at h; subst h
    obtain ⟨l, o, q, hl⟩ := g.fr.cell
    exact ⟨l, o, q, hl⟩
theorem same_step {os : Os} (w : Wo K [] F H os) (s : Same H H') : Stp F H os F H' os ∧ Wo K [] F H' os := by
  have n : Now K ⟨[], F, H, os⟩ F H os := ⟨w, .refl⟩
  have m := n.grow s
  exact ⟨m.st, m.now.wo⟩
/-- what is new is never changed -/
theorem ext_step {os : Os} (w : Wo K [] F H os) (sF : Same F F') (s1 : Same F' H') (sH : Same H H') (nw : ∀ y o, F' y = some o → F y = some o ∨ H y = none) : Stp F H os F' H' os ∧ Wo K [] F' H' os := by
  have n : Now K ⟨[], F, H, os⟩ F H os := ⟨w, .refl⟩
  have m := n.ext sF (.of s1) sH fun y o e => (nw y o e).imp id .inl
  exact ⟨m.st, m.now.wo⟩
end
def tTake : TF := fun ts os Φ _ => ∃ b n, ts = [.v (.ref b), .d (.int n)] ∧ os = [(b, .bag)] ∧ 0 < n ∧ n < 1000000000 ∧ ∀ i : Int, 0 ≤ i → i < n → Φ [(b, .bag)] (.d (.int i))
def tOne : TF := fun ts os Φ _ => ∃ b x us, ts = [.v (.ref b), x] ∧ os = [(b, .bag)] ∧ asL x = some us ∧ us ≠ [] ∧ us.length < 1000000 ∧ ∀ t ∈ us, Φ [(b, .bag)] t
def tDraw (G : Dat → Prop) : TF := fun ts os Φ _ => ∃ b, ts = [.v (.ref b)] ∧ os = [(b, .bag)] ∧ ∀ d, G d → Φ [(b, .bag)] (.d d)
section
variable {P : Program} {w : World} {K : PySem.W.Frag} {mg : Str → Option Value} {base : Heap} {k : Nat} {x : Str} {ps : List Str}
/-- a def with its promise told otherwise -/
def _root_.L.Def.weak {sp sp' : Sp} (D : Def P w K mg base k x ps sp) (h : ∀ vs H Q E, sp' vs H Q E → sp vs H Q E) : Def P w K mg base k x ps sp' := ⟨D.f, D.fd, D.ok.weak h, D.b, D.m, D.kp⟩
theorem take_w : ∀ vs H Q E, spW K tTake vs H Q E → spTake vs H Q E := by
  rintro vs H Q E ⟨F, ts, os, Φ, Ψ, wo, r, ⟨b, n, rfl, rfl, h0, h1, h⟩, k1, _⟩
  obtain ⟨v, _, rfl, rv, u, _, rfl, ru, rfl⟩ := r
  cases (show v = .ref b from rv); cases (show u = .int n from ru)
  refine ⟨b, n, rfl, (bag_fr wo).bag, h0, h1, fun i H' i0 i1 sb bt => ?_⟩
  obtain ⟨s, w'⟩ := bag_step wo sb bt
  exact k1 _ _ _ _ _ (h i i0 i1) s w' rfl
theorem one_w : ∀ vs H Q E, spW K tOne vs H Q E → spOne vs H Q E := by
  rintro vs H Q E ⟨F, ts, os, Φ, Ψ, wo, r, ⟨b, x, us, rfl, rfl, hx, hne, hl, h⟩, k1, _⟩
  obtain ⟨v, _, rfl, rv, u, _, rfl, ru, rfl⟩ := r
  cases (show v = .ref b from rv)
  obtain ⟨a, xs, rfl, fa, rx⟩ := asL_rep ru hx
  refine ⟨b, a, xs, rfl, (bag_fr wo).bag, wo.sub.at fa, (bag_fr wo).ne fa, fun z => hne (List.length_eq_zero_iff.mp (by rw [← rx.length, z]; rfl)), by rw [rx.length]; exact hl, fun v H' hv sb bt => ?_⟩
  obtain ⟨s, w'⟩ := bag_step wo sb bt
  obtain ⟨i, hi⟩ := List.mem_iff_getElem?.mp hv
  obtain ⟨t, e, rt⟩ := rx.get hi
  exact k1 _ _ _ _ _ (h t (List.mem_of_getElem? e)) s w' rt
theorem draw_w {G : Dat → Prop} : ∀ vs H Q E, spW K (tDraw G) vs H Q E → Fz.spDraw K G vs H Q E := by
  rintro vs H Q E ⟨F, ts, os, Φ, Ψ, wo, r, ⟨b, rfl, rfl, h⟩, k1, _⟩
  obtain ⟨v, _, rfl, rv, rfl⟩ := r
  cases (show v = .ref b from rv)
  refine ⟨b, F, rfl, bag_fr wo, fun v d F' H' g rd hd => ?_⟩
  obtain ⟨s, w'⟩ := go_step (K := K) g
  exact k1 _ _ _ _ _ (h d hd) s w' rd
end
section
variable {a b c d e f : Dat}
theorem mkTup0 : mkTup [] = .d (.tup []) := rfl
theorem mkTup1 : mkTup [.d a] = .d (.tup [a]) := rfl
theorem mkTup2 : mkTup [.d a, .d b] = .d (.tup [a, b]) := rfl
theorem mkTup3 : mkTup [.d a, .d b, .d c] = .d (.tup [a, b, c]) := rfl
theorem mkTup4 : mkTup [.d a, .d b, .d c, .d d] = .d (.tup [a, b, c, d]) := rfl
theorem mkTup5 : mkTup [.d a, .d b, .d c, .d d, .d e] = .d (.tup [a, b, c, d, e]) := rfl
theorem mkTup6 : mkTup [.d a, .d b, .d c, .d d, .d e, .d f] = .d (.tup [a, b, c, d, e, f]) := rfl
theorem mkLst0 : mkLst [] = .d (.lst []) := rfl
theorem mkLst1 : mkLst [.d a] = .d (.lst [a]) := rfl
theorem mkLst2 : mkLst [.d a, .d b] = .d (.lst [a, b]) := rfl
theorem mkLst3 : mkLst [.d a, .d b, .d c] = .d (.lst [a, b, c]) := rfl
theorem mkLst4 : mkLst [.d a, .d b, .d c, .d d] = .d (.lst [a, b, c, d]) := rfl
theorem mkLst5 {x0 x1 x2 x3 x4 : Dat} : mkLst [.d x0, .d x1, .d x2, .d x3, .d x4] = .d (.lst [x0, x1, x2, x3, x4]) := rfl
theorem mkLst6 {x0 x1 x2 x3 x4 x5 : Dat} : mkLst [.d x0, .d x1, .d x2, .d x3, .d x4, .d x5] = .d (.lst [x0, x1, x2, x3, x4, x5]) := rfl
theorem mkLst7 {x0 x1 x2 x3 x4 x5 x6 : Dat} : mkLst [.d x0, .d x1, .d x2, .d x3, .d x4, .d x5, .d x6] = .d (.lst [x0, x1, x2, x3, x4, x5, x6]) := rfl
theorem mkLst8 {x0 x1 x2 x3 x4 x5 x6 x7 : Dat} : mkLst [.d x0, .d x1, .d x2, .d x3, .d x4, .d x5, .d x6, .d x7] = .d (.lst [x0, x1, x2, x3, x4, x5, x6, x7]) := rfl
theorem mkLst9 {x0 x1 x2 x3 x4 x5 x6 x7 x8 : Dat} : mkLst [.d x0, .d x1, .d x2, .d x3, .d x4, .d x5, .d x6, .d x7, .d x8] = .d (.lst [x0, x1, x2, x3, x4, x5, x6, x7, x8]) := rfl
theorem mkLst10 {x0 x1 x2 x3 x4 x5 x6 x7 x8 x9 : Dat} : mkLst [.d x0, .d x1, .d x2, .d x3, .d x4, .d x5, .d x6, .d x7, .d x8, .d x9] = .d (.lst [x0, x1, x2, x3, x4, x5, x6, x7, x8, x9]) := rfl
theorem mkLst11 {x0 x1 x2 x3 x4 x5 x6 x7 x8 x9 x10 : Dat} : mkLst [.d x0, .d x1, .d x2, .d x3, .d x4, .d x5, .d x6, .d x7, .d x8, .d x9, .d x10] = .d (.lst [x0, x1, x2, x3, x4, x5, x6, x7, x8, x9, x10]) := rfl
theorem mkLst12 {x0 x1 x2 x3 x4 x5 x6 x7 x8 x9 x10 x11 : Dat} : mkLst [.d x0, .d x1, .d x2, .d x3, .d x4, .d x5, .d x6, .d x7, .d x8, .d x9, .d x10, .d x11] = .d (.lst [x0, x1, x2, x3, x4, x5, x6, x7, x8, x9, x10, x11]) := rfl
theorem mkLst13 {x0 x1 x2 x3 x4 x5 x6 x7 x8 x9 x10 x11 x12 : Dat} : mkLst [.d x0, .d x1, .d x2, .d x3, .d x4, .d x5, .d x6, .d x7, .d x8, .d x9, .d x10, .d x11, .d x12] = .d (.lst [x0, x1, x2, x3, x4, x5, x6, x7, x8, x9, x10, x11, x12]) := rfl
theorem mkLst14 {x0 x1 x2 x3 x4 x5 x6 x7 x8 x9 x10 x11 x12 x13 : Dat} : mkLst [.d x0, .d x1, .d x2, .d x3, .d x4, .d x5, .d x6, .d x7, .d x8, .d x9, .d x10, .d x11, .d x12, .d x13] = .d (.lst [x0, x1, x2, x3, x4, x5, x6, x7, x8, x9, x10, x11, x12, x13]) := rfl
theorem mkLst15 {x0 x1 x2 x3 x4 x5 x6 x7 x8 x9 x10 x11 x12 x13 x14 : Dat} : mkLst [.d x0, .d x1, .d x2, .d x3, .d x4, .d x5, .d x6, .d x7, .d x8, .d x9, .d x10, .d x11, .d x12, .d x13, .d x14] = .d (.lst [x0, x1, x2, x3, x4, x5, x6, x7, x8, x9, x10, x11, x12, x13, x14]) := rfl
theorem mkLst16 {x0 x1 x2 x3 x4 x5 x6 x7 x8 x9 x10 x11 x12 x13 x14 x15 : Dat} : mkLst [.d x0, .d x1, .d x2, .d x3, .d x4, .d x5, .d x6, .d x7, .d x8, .d x9, .d x10, .d x11, .d x12, .d x13, .d x14, .d x15] = .d (.lst [x0, x1, x2, x3, x4, x5, x6, x7, x8, x9, x10, x11, x12, x13, x14, x15]) := rfl
def cutD (xs : List Dat) (lo hi : Option Int) : List Dat := (xs.drop (HT.sIx xs.length 0 lo)).take (HT.sIx xs.length xs.length hi - HT.sIx xs.length 0 lo)
theorem cutT_d (xs : List Dat) (lo hi : Option Int) : cutT (xs.map .d) lo hi = (cutD xs lo hi).map .d := by
  unfold cutT cutD
  rw [List.length_map, List.map_take, List.map_drop]
theorem mkLst_cut (xs : List Dat) (lo hi : Option Int) : mkLst (cutT (xs.map .d) lo hi) = .d (.lst (cutD xs lo hi)) := by rw [cutT_d, mkLst_d]
theorem mkLst_app (xs ys : List Dat) : mkLst (xs.map .d ++ ys.map .d) = .d (.lst (xs ++ ys)) := by rw [← List.map_append, mkLst_d]
theorem mkLst_rep (k : Nat) (xs : List Dat) : mkLst (List.replicate k (xs.map .d)).flatten = .d (.lst (List.replicate k xs).flatten) := by rw [← List.map_replicate, ← List.map_flatten, mkLst_d]
theorem sIx_nat {n d : Nat} {z : Int} (h0 : 0 ≤ z) (h1 : z ≤ n) : HT.sIx n d (some z) = z.toNat := by
  show (if z < 0 then (z + (n : Int)).toNat else min z.toNat n) = z.toNat
  rw [if_neg (by omega)]
  omega
theorem cutD_pre {xs : List Dat} {z : Int} (h0 : 0 ≤ z) (h1 : z ≤ xs.length) : cutD xs none (some z) = xs.take z.toNat := by
  unfold cutD
  rw [sIx_nat h0 h1]
  simp [HT.sIx]
theorem cutD_post {xs : List Dat} {z : Int} (h0 : 0 ≤ z) (h1 : z ≤ xs.length) : cutD xs (some z) none = xs.drop z.toNat := by
  unfold cutD
  rw [sIx_nat h0 h1, show HT.sIx xs.length xs.length none = xs.length from rfl]
  exact List.take_of_length_le (by rw [List.length_drop]; omega)
theorem atI_d {xs : List Dat} {z : Int} (h0 : 0 ≤ z) (h1 : z < xs.length) : ∃ d ∈ xs, atI (xs.map Tr.d) z = some (.d d) := by
  have hz : z.toNat < xs.length := by omega
  refine ⟨xs[z.toNat], List.getElem_mem _, ?_⟩
  unfold atI ixN
  rw [if_pos h0, if_pos (by rw [List.length_map]; exact h1)]
  simp [hz]
theorem len_ok {α : Type} {l : List α} (h : Nat.ble l.length sizeLine = true) : l.length ≤ sizeLine := Nat.le_of_ble_eq_true h
end
section
variable {K : PySem.W.Frag} {I : Ini} {Γ : Gm} {os ot : Os} {Φ : Os → Tr → Prop} {F H F1 H1 : Hp} {x y : Tr} {ts us : List Tr} {td ty : TE} {b : Addr}
theorem wT.weak {tt : TT} {Ψ Ψ' : Os → Bool → Prop} (h : wT K I tt Γ os Ψ) (k : ∀ os b, Ψ os b → Ψ' os b) : wT K I tt Γ os Ψ' := fun σ F H Q n e c => h σ F H Q n e fun os' b F' H' p m => c os' b F' H' (k _ _ p) m
theorem wS.weak {t : TS} {P P' : Po} (h : wS K I t Γ os P) (k : ∀ Γ os, P.nx Γ os → P'.nx Γ os) (k2 : ∀ os d, P.rt os d → P'.rt os d := by exact fun _ _ h => h) (k3 : ∀ Γ os, P.bk Γ os → P'.bk Γ os := by exact fun _ _ h => h) (k4 : ∀ Γ os, P.ct Γ os → P'.ct Γ os := by exact fun _ _ h => h) : wS K I t Γ os P' :=
  fun σ F H D n e c => h σ F H D n e ⟨fun a b c' d e' p m r => c.nx a b c' d e' (k _ _ p) m r, fun a b c' d e' p m r => c.rt a b c' d e' (k2 _ _ p) m r, fun a b c' d e' p m r => c.bk a b c' d e' (k3 _ _ p) m r, fun a b c' d e' p m r => c.ct a b c' d e' (k4 _ _ p) m r⟩
/-- d[y], whatever keys it has -/
def getD (x y : Tr) : Option Tr := match asK x with
  | some (ks, ts) => (keyK y).bind (getK ks ts)
  | none => match x with
    | .dT ks ts => (keyT y).bind (getK ks ts)
    | _ => none
theorem wE_dget (h : wE K I td Γ os fun os1 x => wE K I ty Γ os1 fun os2 y => ∃ t, getD x y = some t ∧ Φ os2 t) : wE K I (tDGet td ty) Γ os Φ := fun σ F H Q n e c => by
  refine h σ F H _ n e fun os1 x v F1 H1 h1 m1 r1 => ?_
  refine h1 σ F1 H1 _ m1.now (e.mono m1.up) fun os2 y w F2 H2 h2 m2 r2 => ?_
  obtain ⟨t, ht, h3⟩ := h2
  unfold getD at ht
  split at ht
  · rename_i ks ts ex
    obtain ⟨k, ek, eg⟩ := Option.bind_eq_some_iff.mp ht
    obtain ⟨a, kvs, rfl, fa, e1, rk⟩ := asK_rep ex r1
    obtain ⟨u, hu, ru⟩ := (getK_rep k e1 rk).1 t eg
    cases keyK_rep ek r2
    exact ⟨a, u, rfl, .inl ⟨kvs, k, m2.now.sub.rd (m2.up _ _ fa), rfl, hu.symm⟩, c _ _ _ _ _ h3 (m1.trans m2) (RepT.mono m2.up _ ru)⟩
  · split at ht
    · rename_i ks ts _
      obtain ⟨k, ek, eg⟩ := Option.bind_eq_some_iff.mp ht
      obtain ⟨a, kvs, rfl, fa, e1, rk⟩ := r1
      obtain ⟨u, hu, ru⟩ := (getK_rep k e1 rk).1 t eg
      obtain ⟨b, rfl, fb⟩ := keyT_rep ek r2
      exact ⟨a, u, rfl, .inr ⟨kvs, k, b, m2.now.sub.rd (m2.up _ _ fa), rfl, m2.now.sub.at fb, hu.symm⟩, c _ _ _ _ _ h3 (m1.trans m2) (RepT.mono m2.up _ ru)⟩
    · cases ht
theorem wR_take {n : Int} (hl : I.lk = []) (h0 : 0 < n) (h1 : n < 1000000000) (h : ∀ i : Int, 0 ≤ i → i < n → Φ ((b, .bag) :: ot) (.d (.int i))) : wR K I (fun vs H Q => spW K tTake vs H Q E0) [.v (.ref b), .d (.int n)] ((b, .bag) :: ot) Φ :=
  wR_W1 hl ⟨b, n, rfl, rfl, h0, h1, fun i i0 i1 => by
    show Φ ([(b, .bag)] ++ (ot ++ [])) _
    rw [List.append_nil]
    exact h i i0 i1⟩
theorem wR_one {x : Tr} {us : List Tr} (hl : I.lk = []) (hx : asL x = some us) (h0 : us ≠ []) (h1 : us.length < 1000000) (h : ∀ t ∈ us, Φ ((b, .bag) :: ot) t) : wR K I (fun vs H Q => spW K tOne vs H Q E0) [.v (.ref b), x] ((b, .bag) :: ot) Φ :=
  wR_W1 hl ⟨b, x, us, rfl, rfl, hx, h0, h1, fun t ht => by
    show Φ ([(b, .bag)] ++ (ot ++ [])) _
    rw [List.append_nil]
    exact h t ht⟩
theorem wR_draw {G : Dat → Prop} (hl : I.lk = []) (h : ∀ d, G d → Φ ((b, .bag) :: ot) (.d d)) : wR K I (fun vs H Q => spW K (tDraw G) vs H Q E0) [.v (.ref b)] ((b, .bag) :: ot) Φ :=
  wR_W1 hl ⟨b, rfl, rfl, fun d hd => by
    show Φ ([(b, .bag)] ++ (ot ++ [])) _
    rw [List.append_nil]
    exact h d hd⟩
/-- one of data: data -/
theorem wR_oneD {ds : List Dat} (hl : I.lk = []) (h0 : ds ≠ []) (h1 : ds.length < 1000000) (h : ∀ d ∈ ds, Φ ((b, .bag) :: ot) (.d d)) : wR K I (fun vs H Q => spW K tOne vs H Q E0) [.v (.ref b), .d (.lst ds)] ((b, .bag) :: ot) Φ :=
  wR_one hl rfl (by simpa using h0) (by simpa using h1) fun t ht => by
    obtain ⟨d, hd, rfl⟩ := List.mem_map.mp ht
    exact h d hd
/-- len of what is known -/
theorem wR_lenG (hx : SeqL os x ts) (h : Φ os (.d (.int ts.length))) : wR K I (fun xs H Q => ∃ x n, xs = [x] ∧ LenV K x H n ∧ Q (.int (n : Nat)) H) [x] os Φ := fun F H vs Q n r c => by
  obtain ⟨v, _, rfl, rv, rfl⟩ := r
  obtain ⟨a, xs, rfl, ea, rx⟩ := hx.at n rv
  exact ⟨_, xs.length, rfl, .inl ⟨xs, .inl (.inl ea), rfl⟩, c os _ _ F H h n.self (by rw [rx.length]; rfl)⟩
theorem wR_lenGT (hx : asT x = some ts) (h : Φ os (.d (.int ts.length))) : wR K I (fun xs H Q => ∃ x n, xs = [x] ∧ LenV K x H n ∧ Q (.int (n : Nat)) H) [x] os Φ := fun F H vs Q n r c => by
  obtain ⟨v, _, rfl, rv, rfl⟩ := r
  obtain ⟨a, xs, rfl, ea, _, rx⟩ := asT_at hx n rv
  exact ⟨_, xs.length, rfl, .inr ⟨xs, .inl (.inl ea), rfl⟩, c os _ _ F H h n.self (by rw [rx.length]; rfl)⟩
/-- a cell is changed no more, told of a slot -/
theorem wS_frz {t : TS} {P : Po} (i j : Nat) {p : Addr} {xs : List Tr} (hj : os[j]? = some (p, .lst xs)) (hi : Γ[i]? = some (some (.v (.ref p)))) (h : wS K I t (Γ.set i (some (mkLst xs))) (os.eraseIdx j) P) : wS K I t Γ os P :=
  wS_freeze j hj _ (fun F v r ev σ e => by
    subst ev
    refine ⟨by simp [e.len], fun k u hk => ?_⟩
    by_cases q : k = i
    · subst q
      obtain ⟨w, e1, e2⟩ := e.at' k _ hi
      cases (show w = .ref p from e2)
      rw [List.getElem?_set_self (List.getElem?_eq_some_iff.mp hi).1] at hk
      cases hk
      exact ⟨_, e1, r⟩
    · rw [List.getElem?_set_ne (Ne.symm q)] at hk
      exact e.at' k u hk) h
theorem SeqL.frozen (h : asL x = some ts) : SeqL os x ts := .inl h
theorem SeqL.dat {ds : List Dat} : SeqL os (.d (.lst ds)) (ds.map .d) := .inl rfl
theorem SeqL.own (j : Nat) {p : Addr} (h : os[j]? = some (p, .lst ts)) : SeqL os (.v (.ref p)) ts := .inr ⟨j, p, h, rfl⟩
end
end Wp

set_option Elab.async false
set_option linter.all false
set_option maxRecDepth 100000
set_option maxHeartbeats 8000000
namespace K
open PySem PySem.Spec PyProof.Rows L2 G D L S C Sx Kx Ex Lt Qe De Er
open Fz hiding Fr
open C8 (pss_cut tCut)
open PySem.W (dataLt alike AllAlike Sortable)
open Wp (Tr RepT RepTs spW TF Wo Stp Os Now Nxt)
/-- the law's gate, a Gate, as trees -/
def gateTr (n : Int) (ds cs : List Str) (rs : List Rl) : Tr := .dK [.inr "states", .inr "doors", .inr "closet", .inr "rules"] [.d (.int n), .d (.lst (ds.map .str)), .d (.lst (cs.map .str)), .dT (rs.map Rl.key) (rs.map fun r => .d r.restD)]
def GateTr (C : Addr) (n : Int) (ds cs : List Str) (rs : List Rl) : Tr := .ins C ["_states", "_doors", "_closet", "_rules"] [.d (.int n), .d (.lst ((sortS ds).map .str)), .d (.lst ((sortS cs).map .str)), .dT (rs.map Rl.key) (rs.map fun r => .d r.dat)]
section
variable {K : PySem.W.Frag} {F H : Hp} {v : V}
theorem map_d (rs : List Rl) (f : Rl → Dat) : (rs.map fun r => Tr.d (f r)) = (rs.map f).map .d := by rw [List.map_map]; rfl
theorem lgf_of {n : Int} {ds cs : List Str} {rs : List Rl} (h : RepT K F v (gateTr n ds cs rs)) : ∃ g, v = .ref g ∧ LGF K F g n ds cs rs := by
  obtain ⟨g, kvs, rfl, fg, ek, rk⟩ := h
  obtain ⟨v1, _, e1, r1, v2, _, e2, r2, v3, _, e3, r3, v4, _, e4, r4, e5⟩ := rk
  obtain ⟨d, xs, rfl, fd, rd⟩ := r2
  obtain ⟨c, ys, rfl, fc, rc⟩ := r3
  obtain ⟨r, kv, rfl, fr, kr, rr⟩ := r4
  cases (show v1 = .int n from r1)
  have : kvs = lgd n d c r := by
    have e : kvs.map (·.2) = [.int n, .ref d, .ref c, .ref r] := by rw [e1, e2, e3, e4, e5]
    match kvs, ek, e with
    | [(a1, b1), (a2, b2), (a3, b3), (a4, b4)], ek, e => simp at ek e; obtain ⟨rfl, rfl, rfl, rfl⟩ := ek; obtain ⟨rfl, rfl, rfl, rfl⟩ := e; rfl
    | [], ek, _ => simp at ek
    | [_], ek, _ => simp at ek
    | [_, _], ek, _ => simp at ek
    | [_, _, _], ek, _ => simp at ek
    | _ :: _ :: _ :: _ :: _ :: _, ek, _ => simp at ek
  subst this
  rw [rd.strs] at fd
  rw [rc.strs] at fc
  rw [map_d] at rr
  exact ⟨g, rfl, ⟨r, kv, ⟨d, c, fg, fd, fc⟩, fr, kr, rr.all⟩⟩
theorem of_lgf {g : Addr} {n : Int} {ds cs : List Str} {rs : List Rl} (h : LGF K F g n ds cs rs) : RepT K F (.ref g) (gateTr n ds cs rs) := by
  obtain ⟨r, kv, ⟨d, c, fg, fd, fc⟩, fr, lr⟩ := h.ex
  refine ⟨g, _, rfl, fg, rfl, _, _, rfl, rfl, _, _, rfl, ⟨d, _, rfl, fd, .of_strs _⟩, _, _, rfl, ⟨c, _, rfl, fc, .of_strs _⟩, _, _, rfl, ⟨r, kv, rfl, fr, lr.ks, ?_⟩, rfl⟩
  rw [map_d]
  exact .of lr.vs
theorem of_gate {C x : Addr} {n : Int} {ds cs : List Str} {rs : List Rl} (h : GateAt K C F x n ds cs rs) : RepT K F (.ref x) (GateTr C n ds cs rs) := by
  obtain ⟨dx, d, c, r, kvs, us, ws, h1, h2, h3, h4, h5, h6, h7, h8, h9, h10⟩ := h.ex
  refine ⟨x, dx, _, rfl, h1, rfl, _, _, rfl, rfl, _, _, rfl, ⟨d, _, rfl, h2, ?_⟩, _, _, rfl, ⟨c, _, rfl, h3, ?_⟩, _, _, rfl, ⟨r, kvs, rfl, h4, h7, ?_⟩, rfl⟩
  · rw [sortS_eq h9]; exact .of_strs _
  · rw [sortS_eq h10]; exact .of_strs _
  · rw [map_d]; exact .of h8
theorem sortS_map (ds : List Str) : ∃ us : List Str, sortD (ds.map Dat.str) = us.map Dat.str ∧ us.Perm ds ∧ sortS ds = us := by
  obtain ⟨us, e, p⟩ := perm_map_str (show (sortD (ds.map Dat.str)).Perm (ds.map .str) from List.mergeSort_perm _ _)
  exact ⟨us, e, p, sortS_eq e⟩
theorem gate_of {C : Addr} {n : Int} {ds cs : List Str} {rs : List Rl} (h : RepT K F v (GateTr C n ds cs rs)) : ∃ x, v = .ref x ∧ GateAt K C F x n ds cs rs := by
  obtain ⟨x, dx, kvs, rfl, fx, ek, rk⟩ := h
  obtain ⟨v1, _, e1, r1, v2, _, e2, r2, v3, _, e3, r3, v4, _, e4, r4, e5⟩ := rk
  obtain ⟨d, xs, rfl, fd, rd⟩ := r2
  obtain ⟨c, ys, rfl, fc, rc⟩ := r3
  obtain ⟨r, kv, rfl, fr, kr, rr⟩ := r4
  cases (show v1 = .int n from r1)
  have : kvs = ([("_states", V.int n), ("_doors", V.ref d), ("_closet", V.ref c), ("_rules", V.ref r)] : List (Str × V)) := by
    have e : kvs.map (·.2) = [.int n, .ref d, .ref c, .ref r] := by rw [e1, e2, e3, e4, e5]
    match kvs, ek, e with
    | [(a1, b1), (a2, b2), (a3, b3), (a4, b4)], ek, e => simp at ek e; obtain ⟨rfl, rfl, rfl, rfl⟩ := ek; obtain ⟨rfl, rfl, rfl, rfl⟩ := e; rfl
    | [], ek, _ => simp at ek
    | [_], ek, _ => simp at ek
    | [_, _], ek, _ => simp at ek
    | [_, _, _], ek, _ => simp at ek
    | _ :: _ :: _ :: _ :: _ :: _, ek, _ => simp at ek
  subst this
  obtain ⟨us, e1, p1, q1⟩ := sortS_map ds
  obtain ⟨ws, e2, p2, q2⟩ := sortS_map cs
  rw [rd.strs, q1] at fd
  rw [rc.strs, q2] at fc
  rw [map_d] at rr
  exact ⟨x, rfl, ⟨dx, d, c, r, kv, us, ws, fx, fd, fc, fr, p1, p2, kr, rr.all, e1, e2⟩⟩
end
def tSortedRules : TF := fun ts os Φ _ => ∃ n ds cs rs, ts = [gateTr n ds cs rs] ∧ os = [] ∧ rs.length ≤ 100 ∧ (rs.map Rl.key).Nodup ∧ ∀ es : List Dat, es.Perm (rs.map Rl.dat) → es = sortD (rs.map Rl.dat) → Φ [] (.d (.lst es))
def tBentRule : TF := fun ts os Φ _ => ∃ b d n ds cs rs, ts = [.v (.ref b), .d d, gateTr n ds cs rs] ∧ os = [(b, .bag)] ∧ WfG n ds cs rs ∧ rs ≠ [] ∧ Ro d ∧ ∀ d', Ro d' → Φ [(b, .bag)] (.d d')
def tLawGate (C : Addr) : TF := fun ts os Φ _ => ∃ b n ds cs rs, ts = [.v (.ref b), gateTr n ds cs rs] ∧ os = [(b, .bag)] ∧ WfG n ds cs rs ∧ ∀ (us ws : List Str) (rs' : List Rl), us.Perm ds → ws.Perm cs → rs'.Perm rs → Φ [(b, .bag)] (GateTr C n us ws rs')
section
variable {K : PySem.W.Frag}
theorem sorted_w : ∀ vs H Q E, spW K tSortedRules vs H Q E → spSortedRules K vs H Q E := by
  rintro vs H Q E ⟨F, ts, os, Φ, Ψ, wo, r, ⟨n, ds, cs, rs, rfl, rfl, hl, hn, h⟩, k1, _⟩
  obtain ⟨v, _, rfl, rv, rfl⟩ := r
  obtain ⟨g, rfl, lgf⟩ := lgf_of rv
  obtain ⟨r, kvs, lg, fr, lr⟩ := lgf.ex
  refine ⟨g, r, n, ds, cs, kvs, rs, F, rfl, wo.sub.same, lg.mono wo.sub.same, wo.sub.same _ _ fr, lr, hl, hn, fun v es F' H' sH sF s1 nw re pe => ?_⟩
  obtain ⟨s, w'⟩ := Wp.ext_step wo sF s1 sH nw
  exact k1 _ _ _ _ _ (h es (by rw [pe]; exact List.mergeSort_perm _ _) pe) s w' re
theorem all_tup {F H : Hp} {os : Os} (w : Wo K [] F H os) : ∃ F1, Stp F H os F1 H os ∧ Wo K [] F1 H os ∧ TupF F1 H := by
  have n : Now K ⟨[], F, H, os⟩ F H os := ⟨w, .refl⟩
  have m := n.ext (F1 := fun y => match F y with | some o => some o | none => match H y with | some (.tup xs) => some (.tup xs) | _ => none) (fun y o e => by simp [e]) (.of fun y o e => ?_) (.refl _) (fun y o e => ?_)
  · refine ⟨_, m.st, m.now.wo, fun p xs e => ?_⟩
    cases q : F p with
    | some o => have := w.sub.same _ _ q; rw [e] at this; cases this; simp [q]
    | none => simp [q, e]
  · cases q : F y with
    | some u => simp [q] at e; subst e; exact w.sub.same _ _ q
    | none =>
      simp only [q] at e
      split at e
      · rename_i xs z; rw [z]; exact e
      · cases e
  · cases q : F y with
    | some u => simp [q] at e; subst e; exact .inl rfl
    | none =>
      simp only [q] at e
      split at e
      · cases e; exact .inr (.inr ⟨_, rfl⟩)
      · cases e
theorem bent_rule_w : ∀ vs H Q E, spW K tBentRule vs H Q E → spBentRule K vs H Q E := by
  rintro vs H Q E ⟨F, ts, os, Φ, Ψ, wo, r, ⟨b, d, n, ds, cs, rs, rfl, rfl, wf, rne, ro, h⟩, k1, _⟩
  obtain ⟨v1, _, rfl, r1, v2, _, rfl, r2, v3, _, rfl, r3, rfl⟩ := r
  cases (show v1 = .ref b from r1)
  obtain ⟨F1, s1, w1, tf⟩ := all_tup wo
  obtain ⟨g, rfl, lgf⟩ := lgf_of (Wp.RepT.mono s1.up _ r3)
  refine ⟨b, g, v2, d, F1, n, ds, cs, rs, rfl, Wp.bag_fr w1, tf, lgf, wf, rne, Rep.mono s1.up _ r2, ro, fun v' d' F' H' go re rd => ?_⟩
  obtain ⟨s, w'⟩ := Wp.go_step (K := K) go
  exact k1 _ _ _ _ _ (h d' rd) (s1.trans s) w' re
theorem law_gate_w {C : Addr} : ∀ vs H Q E, spW K (tLawGate C) vs H Q E → spLawGate K C vs H Q E := by
  rintro vs H Q E ⟨F, ts, os, Φ, Ψ, wo, r, ⟨b, n, ds, cs, rs, rfl, rfl, wf, h⟩, k1, _⟩
  obtain ⟨v1, _, rfl, r1, v3, _, rfl, r3, rfl⟩ := r
  cases (show v1 = .ref b from r1)
  obtain ⟨g, rfl, lgf⟩ := lgf_of r3
  refine ⟨b, g, F, n, ds, cs, rs, rfl, Wp.bag_fr wo, lgf, wf, fun x us ws rs' F' H' go ga p1 p2 p3 => ?_⟩
  obtain ⟨s, w'⟩ := Wp.go_step (K := K) go
  exact k1 _ _ _ _ _ (h us ws rs' p1 p2 p3) s w' (of_gate ga)
end
end K

set_option Elab.async false
set_option linter.all false
set_option maxRecDepth 100000
set_option maxHeartbeats 8000000
namespace K
open PySem PySem.Spec PyProof.Rows L2 G D L S C Sx Kx Ex Lt Qe De Er
open Fz hiding Fr
open C8 (pss_cut tCut)
open PySem.W (dataLt alike AllAlike Sortable)
open Wp (Tr RepT RepTs spW TF Wo Stp Os Now Nxt)
local macro_rules | `(tactic| walk_at "w1") => `(tactic| first
  | (with_reducible first
    | refine Wp.wS_seq ?_ | refine Wp.wS_set ?_ | refine Wp.wS_ret ?_ | refine Wp.wS_retN ?_ | refine Wp.wS_drop ?_ | refine Wp.wS_if ?_ | refine Wp.wS_next ?_ | refine Wp.wS_cont ?_ | refine Wp.wS_break ?_ | refine Wp.wS_par ⟨_, _, rfl, ?_⟩
    | refine Wp.wE_itemsT (by assumption) ?_ | refine Wp.wE_op ?_ | refine Wp.wE_un ?_ | refine Wp.wA_nil ?_ | refine Wp.wA_cons ?_ | refine Wp.wA_mix ?_ | refine Wp.wE_cb ?_ | refine Wp.wE_call ?_ | refine Wp.wE_bm0 ?_ | refine Wp.wE_bm ?_
    | refine Wp.wT_test ?_ | refine Wp.wT_b ?_ | refine Wp.wT_not ?_ | refine Wp.wT_and ?_ | refine Wp.wT_or ?_ | refine Wp.wT_yes ?_ | refine Wp.wE_not ?_ | refine Wp.wE_and ?_ | refine Wp.wE_or ?_ | refine Wp.wE_if ?_ | refine Wp.wE_chain ?_
    | refine Wp.wE_sl ?_ | refine Wp.wP_none ?_ | refine Wp.wP_some ?_
    | refine Wp.wE_int ?_ | refine Wp.wE_str ?_ | refine Wp.wE_bl ?_ | refine Wp.wE_non ?_ | refine Wp.wE_ty ?_ | refine Wp.wE_ref ?_ | refine Wp.wE_lit ?_
    | refine Wp.wE_items ?_ | refine Wp.wE_revT ?_
    | refine Wp.wE_tup ?_ | refine Wp.wE_dget ?_ | refine Wp.wS_asg ?_ | refine Wp.wG_set ?_ | refine Wp.wS_for ?_ | refine Wp.wI_list ?_ | refine Wp.wI_tup ?_ | refine Wp.wI_rng1 ?_ | refine Wp.wI_rng2 ?_ | refine Wp.wE_fld ?_ | refine Wp.wE_meth ?_ | refine Wp.wE_prop ?_
    | refine Wp.wR_take (by assumption) (by decide) (by decide) ?_ | refine Wp.wR_draw (by assumption) ?_
    | refine Wp.wG_name ?_ | refine Wp.wGs_nil ?_ | refine Wp.wGs_cons ?_ | refine Wp.wLG_name (by decide) ?_)
  | refine Wp.wE_var rfl ?_
  | refine ⟨_, rfl, ?_⟩
  | refine ⟨Wp.len_ok rfl, ?_⟩
  | dsimp only
  | dsimp only [Wp.wipeG, List.set_cons_zero, List.set_cons_succ, List.cons_append, List.nil_append, List.map_cons, List.map_nil, Wp.mkTup0, Wp.mkTup1, Wp.mkTup2, Wp.mkTup3, Wp.mkTup4, Wp.mkTup5, Wp.mkTup6, Wp.mkLst0, Wp.mkLst1, Wp.mkLst2, Wp.mkLst3, Wp.mkLst4, Wp.mkLst5, Wp.mkLst6, Wp.mkLst7, Wp.mkLst8, Wp.mkLst9, Wp.mkLst10, Wp.mkLst11, Wp.mkLst12, Wp.mkLst13, Wp.mkLst14, Wp.mkLst15, Wp.mkLst16, List.take_succ_cons, List.take_zero, List.drop_succ_cons, List.drop_zero, List.take_nil, List.drop_nil]
  | rw [Wp.mkTup_d] | rw [Wp.mkLst_d] | rw [Wp.mkLst_cut] | rw [Wp.mkLst_app] | rw [Wp.mkLst_rep] | rw [Wp.mkTup_rev] | rw [List.append_nil]
  | refine Wp.wR_listL (Or.inl rfl) ?_ | refine Wp.wO_ixL (Or.inl rfl) rfl ?_ | refine Wp.wO_ixL (Wp.SeqL.own 1 rfl) rfl ?_ | refine Wp.wO_ixL (Wp.SeqL.own 2 rfl) rfl ?_ | refine Wp.wO_ixT rfl rfl ?_ | refine Wp.wO_ixST rfl rfl ?_
  | refine ⟨1, _, _, _, _, rfl, rfl, rfl, rfl, ?_⟩ | refine ⟨2, _, _, _, _, rfl, rfl, rfl, rfl, ?_⟩
  | refine Wp.wO_eqI ?_ | refine Wp.wO_neI ?_ | refine Wp.wO_eqS ?_ | refine Wp.wO_neS ?_
  | refine Wp.wO_intI rfl ?_ | refine Wp.wO_intB rfl ?_
  | refine Wp.wR_int ?_ | refine Wp.wR_intB ?_
  | refine Wp.wO_isB ?_ | refine Wp.wO_notB ?_ | refine Wp.wO_isN ?_ | refine Wp.wO_notN ?_)
local macro_rules | `(tactic| walk_at "w0") => `(tactic| (dsimp only [cxOf, Cx.nox, Cx.wish]; simp only [List.map_cons, List.map_nil, List.length_cons, List.length_nil, Nat.reduceAdd, Nat.reduceSub, List.replicate_succ, List.replicate_zero, List.cons_append, List.nil_append]))
/-- an argument, bent or not -/
structure Ar (m : Nat) (d : Dat) : Prop where
  fi : Fine 10 4000000 d
  wd : Wd d
  ls : ∀ ds, d = .lst ds → ds.length ≤ 900 + m ∧ ∀ e ∈ ds, Ro e
theorem ar_lst {m : Nat} {ds : List Dat} (hm : m ≤ 10) (hl : ds.length ≤ 900 + m) (h : ∀ e ∈ ds, Ro e) : Ar m (.lst ds) :=
  ⟨(fine_lst (m := 910) (fun e he => (h e he).fi) (by omega)).mono (by decide) (by decide), (wd_ofS (by omega) fun e he => (h e he).wd).1, fun es e => by cases e; exact ⟨hl, h⟩⟩
theorem Ar.up {m k : Nat} {d : Dat} (h : Ar m d) (l : m ≤ k) : Ar k d := ⟨h.fi, h.wd, fun ds e => ⟨Nat.le_trans (h.ls ds e).1 (by omega), (h.ls ds e).2⟩⟩
theorem ro_of {d : Dat} (h : Fine 8 4000 d) (w : Wd d) (n : not6 d = true) : Ro d := ⟨h.mono (by decide) (by decide), w, fun xs e hl x hx => by
  subst e
  have : (xs.length != 6 || xs.all (fineB 8 600)) = true := n
  rw [hl] at this
  exact fine_of (List.all_eq_true.mp (by simpa using this) x hx)⟩
theorem ro_el {d : Dat} (h : El d) (n : ∀ xs, d ≠ .tup xs := by intro _ z; cases z) : Ro d := ⟨h.fi.mono (by decide) (by decide), h.wd, fun xs e => absurd e (n xs)⟩
theorem ar_gd {m : Nat} {d : Dat} (h : Gd d) : Ar m d := ⟨h.fi.mono (by decide) (by decide), h.wd, fun ds e => by
  subst e
  have := h.tp
  exact ⟨Nat.le_trans this (by omega), fun e he => ro_of (h.el _ rfl e he).1 ((wd_lst h.wd).2 e he) (h.el _ rfl e he).2⟩⟩
def tBent : TF := fun ts os Φ _ => ∃ b n ds cs rs, ts = [.v (.ref b), gateTr n ds cs rs] ∧ os = [(b, .bag)] ∧ WfG n ds cs rs ∧ rs ≠ [] ∧ ds.length ≤ 16 ∧ ∀ d1 d2 d3 d4, Ar 4 d1 → Ar 4 d2 → Ar 4 d3 → Ar 4 d4 → Φ [(b, .bag)] (.d (.lst [d1, d2, d3, d4]))
section
variable {P : Program} {w : World} {K : PySem.W.Frag} {mg : Str → Option Value} {base : Heap}
abbrev s_law_bent : Stmt := top 31
theorem sc_law_bent : FnScope ["bag", "gate", "found", "k", "at", "spot", "more"] ["bag", "gate"] (defScope s_law_bent) := ⟨rfl, rfl, rfl, by decide +kernel, rfl, by decide +kernel, by decide +kernel⟩
theorem ok_bent {f : Addr} {fd : FuncData} (F : Fun K "_law_bent" "_law_bent" s_law_bent f fd) (T : Bl mg)
    (D_law_take : Def P w K mg base 2 "_law_take" ["bag", "many"] (spW K Wp.tTake)) (D_law_one : Def P w K mg base 3 "_law_one" ["bag", "things"] (spW K Wp.tOne))
    (D_law_odd : Def P w K mg base 4 "_law_odd" ["bag"] (spW K (Wp.tDraw Gd))) (D_law_sorted_rules : Def P w K mg base 2 "_law_sorted_rules" ["gate"] (spW K tSortedRules))
    (D_law_bent_rule : Def P w K mg base 5 "_law_bent_rule" ["bag", "rule", "gate"] (spW K tBentRule)) : Fn P w K mg base CX0 6 f fd ["bag", "gate"] (spW K tBent) := by
  refine Wp.fn_w F sc_law_bent (fun ts os Φ Ψ ⟨b, n, ds, cs, rs, e, _⟩ => by rw [e]; rfl) fun cdv A outer s H E hc hr => ?_
  have hu := hu_of hr
  have hu64 := hr.units
  refine ⟨_, (pss_cons (ps_set (i := 2) sc_law_bent.nd rfl (Or.inl rfl) (pe_lst (pa_cons (pe_dget hu (pv 1) pe_str (fun _ _ => rfl)) (pa_cons (pe_callTy call_list_of (by rfl) T.listN (by decide +kernel) (pa_cons (pe_dget hu (pv 1) pe_str (fun _ _ => rfl)) pa_nil)) (pa_cons (pe_callTy call_list_of (by rfl) T.listN (by decide +kernel) (pa_cons (pe_dget hu (pv 1) pe_str (fun _ _ => rfl)) pa_nil)) (pa_cons (pe_def D_law_sorted_rules hc (hr.mono (by decide)) (pa_cons (pv 1) pa_nil)) pa_nil))))))
 (pss_cons (ps_for PassesOwn.never rfl (pi_range1 rfl T.rangeN (pa_cons (pe_op op_add pe_int (pe_def D_law_take hc (hr.mono (by decide)) (pa_cons (pv 0) (pa_cons pe_int pa_nil)))) pa_nil)) (pg_name (i := 3) sc_law_bent.nd rfl (Or.inl rfl))
  (pss_cons (ps_set (i := 4) sc_law_bent.nd rfl (Or.inl rfl) (pe_def D_law_take hc (hr.mono (by decide)) (pa_cons (pv 0) (pa_cons pe_int pa_nil))))
 (pss_one (ps_if (pt_cmpR op_eq (pv 4) pe_int (nomark _))
  (pss_one (ps_asg (pe_def D_law_one hc (hr.mono (by decide)) (pa_cons (pv 0) (pa_cons (pe_lst (pa_mix 9 7 (ds := [.int 0, .int 65, .int 64, .bl true, .non, .str "2", .int (-(1 : Int))]) (by rfl) (by rfl) (pa_cons (pe_def D_law_odd hc (hr.mono (by decide)) (pa_cons (pv 0) pa_nil)) pa_nil))) pa_nil))) (pg_sub (pv 2) pe_int set_list)))
  (pss_one (ps_if (PW.pt (pw_and (pt_cmpR op_eq (pv 4) pe_int (nomark _)) (pw_and (pt_val (pe_callB call_isi (by rfl) T.isinstanceN (by decide +kernel) (pa_cons (pe_ix ix_list (pv 2) pe_int (fun _ _ => rfl)) (pa_cons (pe_bltn (v := .ty "list") (by rfl) T.listN (by decide +kernel) rfl) pa_nil)))) (pw_and (pt_cmpR (op_ne_lst0 hu) (pe_ix ix_list (pv 2) pe_int (fun _ _ => rfl)) (pe_lit (d := .lst []) 9 (by rfl) (by rfl)) (nomark _)) (pw_and1 (pt_cmpR op_gt (pe_def D_law_take hc (hr.mono (by decide)) (pa_cons (pv 0) (pa_cons pe_int pa_nil))) pe_int (nomark _)))))))
  (pss_cons (ps_set (i := 5) sc_law_bent.nd rfl (Or.inl rfl) (pe_def D_law_take hc (hr.mono (by decide)) (pa_cons (pv 0) (pa_cons (pe_callB call_len_seq (by rfl) T.lenN (by decide +kernel) (pa_cons (pe_ix ix_list (pv 2) pe_int (fun _ _ => rfl)) pa_nil)) pa_nil))))
 (pss_cons (ps_set (i := 6) sc_law_bent.nd rfl (Or.inl rfl) (pe_lst (pa_cons (pe_def D_law_bent_rule hc (hr.mono (by decide)) (pa_cons (pv 0) (pa_cons (pe_ix ix_list (pe_ix ix_list (pv 2) pe_int (fun _ _ => rfl)) (pv 5) (fun _ _ => rfl)) (pa_cons (pv 1) pa_nil)))) pa_nil)))
 (pss_cut (ps_if (pt_cmpR op_eq (pe_def D_law_take hc (hr.mono (by decide)) (pa_cons (pv 0) (pa_cons pe_int pa_nil))) pe_int (nomark _))
  (pss_one (ps_set (i := 6) sc_law_bent.nd rfl (Or.inl rfl) (pe_lst (pa_cons (pe_ix ix_list (pe_ix ix_list (pv 2) pe_int (fun _ _ => rfl)) (pv 5) (fun _ _ => rfl)) (pa_cons (pe_ix ix_list (pe_ix ix_list (pv 2) pe_int (fun _ _ => rfl)) (pv 5) (fun _ _ => rfl)) pa_nil)))))
  pss_nil)
 (pss_one (ps_asg (pe_op op_cat (pe_op op_cat (pe_slice sl_list (pe_ix ix_list (pv 2) pe_int (fun _ _ => rfl)) po_none (po_some (pv 5))) (pv 6)) (pe_slice sl_list (pe_ix ix_list (pv 2) pe_int (fun _ _ => rfl)) (po_some (pe_op op_add (pv 5) pe_int)) po_none)) (pg_sub (pv 2) pe_int set_list))))))
  (pss_cut (ps_set (i := 6) sc_law_bent.nd rfl (Or.inl rfl) (pe_ifExp (pt_val (pe_callB call_isi (by rfl) T.isinstanceN (by decide +kernel) (pa_cons (pe_ix ix_list (pv 2) (pv 4) (fun _ _ => rfl)) (pa_cons (pe_bltn (v := .ty "list") (by rfl) T.listN (by decide +kernel) rfl) pa_nil)))) (pe_op op_cat (pe_ix ix_list (pv 2) (pv 4) (fun _ _ => rfl)) (pe_lst (pa_cons (pe_def D_law_one hc (hr.mono (by decide)) (pa_cons (pv 0) (pa_cons (pe_lit (d := .lst [.str "", .str "A", .non, .int 5, .str "zz"]) 9 (by rfl) (by rfl)) pa_nil))) pa_nil))) (pe_lit (d := .lst []) 9 (by rfl) (by rfl))))
 (pss_one (ps_asg (pe_def D_law_one hc (hr.mono (by decide)) (pa_cons (pv 0) (pa_cons (pe_lst (pa_cons (pe_def D_law_odd hc (hr.mono (by decide)) (pa_cons (pv 0) pa_nil)) (pa_cons (pv 6) (pa_cons (pe_lit (d := .lst []) 9 (by rfl) (by rfl)) (pa_cons (pe_op op_rep (pe_dget hu (pv 1) pe_str (fun _ _ => rfl)) pe_int) pa_nil))))) pa_nil))) (pg_sub (pv 2) (pv 4) set_list))))))))))
 (pss_one (ps_ret (pv 2))))), ?_⟩
  rintro I ts os Φ Ψ hl ⟨b, n, ds, cs, rs, rfl, rfl, wf, rne, dl, k⟩
  walk_at "w0"
  repeat' walk_at "w1"
  refine Wp.wE_lstO ?_
  repeat' walk_at "w1"
  refine Wp.wR_W0 hl ⟨n, ds, cs, rs, rfl, rfl, wf.rl, wf.ks, fun es pe _ => ?_⟩
  repeat' walk_at "w1"
  intro p
  repeat' walk_at "w1"
  intro m m0 m2
  repeat' walk_at "w1"
  have arS : ∀ {ws : List Str}, Names ws → ws.length ≤ 16 → Ar 0 (.lst (ws.map .str)) := fun hn hl => ar_lst (by decide) (by rw [List.length_map]; omega) fun e he => by
    obtain ⟨w, hw, rfl⟩ := List.mem_map.mp he
    exact ro_el (el_tx (tx_name (hn.ok w hw)))
  refine ⟨by omega, by omega, fun i Γ os => ∃ (o3 o4 o5 o6 : Option Tr) (d1 d2 d3 d4 : Dat), Γ = [some (.v (.ref b)), some (gateTr n ds cs rs), some (.v (.ref p)), o3, o4, o5, o6] ∧ os = [(b, .bag), (p, .lst [.d d1, .d d2, .d d3, .d d4])] ∧ Ar i d1 ∧ Ar i d2 ∧ Ar i d3 ∧ Ar i d4,
    ⟨none, none, none, none, _, _, _, _, rfl, rfl, ?_, arS wf.nd dl, arS wf.nc wf.lc, ar_lst (by decide) (by rw [pe.length_eq, List.length_map]; have := wf.rl; omega) fun e he => ?_⟩, ?_, ?_⟩
  · exact ⟨(el_n wf.n1 wf.n64).fi.mono (by decide) (by decide), rfl, fun ds e => by cases e⟩
  · obtain ⟨r, hr, rfl⟩ := List.mem_map.mp (pe.mem_iff.mp he)
    exact rule_ro wf hr
  · rintro i t Γ os ht ⟨o3, o4, o5, o6, d1, d2, d3, d4, rfl, rfl, a1, a2, a3, a4⟩
    obtain ⟨hi, rfl⟩ := Wp.rngT_get ht
    have hi2 : i < 2 := by omega
    repeat' walk_at "w1"
    intro q q0 q4
    repeat' walk_at "w1"
    refine ⟨fun e => ?_, fun e => ?_⟩
    · repeat' walk_at "w1"
      refine Wp.wE_lst ?_
      repeat' walk_at "w1"
      intro d hd
      repeat' walk_at "w1"
      refine Wp.wR_oneD hl (by simp) (show 8 < 1000000 by decide) fun x hx => ?_
      repeat' walk_at "w1"
      refine ⟨_, _, _, _, x, d2, d3, d4, rfl, rfl, ?_, a2.up (Nat.le_succ _), a3.up (Nat.le_succ _), a4.up (Nat.le_succ _)⟩
      simp only [List.mem_cons, List.not_mem_nil, or_false] at hx
      rcases hx with rfl | rfl | rfl | rfl | rfl | rfl | rfl | rfl
      all_goals first | exact ar_gd hd | exact ⟨fine_of (by decide +kernel), rfl, fun _ e => (nomatch e)⟩
    · refine Wp.wS_if (Wp.wT.weak (Ψ := fun os k => os = [(b, Wp.Cell.bag), (p, Wp.Cell.lst [Tr.d d1, Tr.d d2, Tr.d d3, Tr.d d4])] ∧ (k = true → ∃ ds, d4 = .lst ds ∧ ds ≠ [])) ?_ ?_)
      · repeat' walk_at "w1"
        refine ⟨fun e3 => ?_, fun e3 => ⟨rfl, fun z => (nomatch z)⟩⟩
        repeat' walk_at "w1"
        refine Wp.wR_isi (.ty "list") (fun _ _ => Wp.kit_lst) ?_
        repeat' walk_at "w1"
        refine ⟨fun e4 => ?_, fun e4 => ⟨rfl, fun z => (nomatch z)⟩⟩
        obtain ⟨ds4, rfl⟩ : ∃ ds, d4 = .lst ds := by cases d4 <;> first | exact ⟨_, rfl⟩ | cases e4
        repeat' walk_at "w1"
        refine Wp.wO_neL0 .dat .dat ?_
        repeat' walk_at "w1"
        refine ⟨fun e5 => ?_, fun e5 => ⟨rfl, fun z => (nomatch z)⟩⟩
        repeat' walk_at "w1"
        intro z z0 z4
        repeat' walk_at "w1"
        exact ⟨rfl, fun _ => ⟨ds4, rfl, fun z => by subst z; simp at e5⟩⟩
      · rintro os k ⟨rfl, hk⟩
        refine ⟨fun e2 => ?_, fun e2 => ?_⟩
        · obtain ⟨ds4, rfl, hne⟩ := hk e2
          obtain ⟨l4, r4⟩ := a4.ls _ rfl
          have l0 : 0 < ds4.length := List.length_pos_iff.mpr hne
          repeat' walk_at "w1"
          refine Wp.wR_lenL .dat ?_
          repeat' walk_at "w1"
          rw [List.length_map]
          refine Wp.wR_take hl (by omega) (by omega) fun z z0 z1 => ?_
          obtain ⟨dz, mz, ez⟩ := Wp.atI_d z0 z1
          repeat' walk_at "w1"
          refine Wp.wE_lst ?_
          repeat' walk_at "w1"
          refine Wp.wO_ixL .dat ez ?_
          repeat' walk_at "w1"
          refine Wp.wR_W1 hl ⟨b, dz, n, ds, cs, rs, rfl, rfl, wf, rne, r4 _ mz, fun d' hd' => ?_⟩
          repeat' walk_at "w1"
          refine Wp.wS_cut (fun Γ os => ∃ es, Γ = [some (.v (.ref b)), some (gateTr n ds cs rs), some (.v (.ref p)), some (.d (.int (0 + (i : Nat)))), some (.d (.int q)), some (.d (.int z)), some (.d (.lst es))] ∧
            os = [(b, Wp.Cell.bag), (p, Wp.Cell.lst [Tr.d d1, Tr.d d2, Tr.d d3, Tr.d (.lst ds4)])] ∧ es.length ≤ 2 ∧ ∀ e ∈ es, Ro e) ?_ ?_
          · repeat' walk_at "w1"
            intro y y0 y6
            repeat' walk_at "w1"
            refine ⟨fun _ => ?_, fun _ => ?_⟩
            · repeat' walk_at "w1"
              refine Wp.wE_lst ?_
              repeat' walk_at "w1"
              refine Wp.wO_ixL .dat ez ?_
              repeat' walk_at "w1"
              refine Wp.wO_ixL .dat ez ?_
              repeat' walk_at "w1"
              exact ⟨rfl, Nat.le_refl _, fun e he => by simp at he; rw [he]; exact r4 _ mz⟩
            · repeat' walk_at "w1"
              exact ⟨rfl, (show 1 ≤ 2 by decide), fun e he => by simp at he; rw [he]; exact hd'⟩
          · rintro Γ os ⟨es, rfl, rfl, le, re⟩
            repeat' walk_at "w1"
            refine Wp.wL_list .dat ?_
            repeat' walk_at "w1"
            have lc : (Wp.cutD ds4 none (some z)).length + es.length + (Wp.cutD ds4 (some (z + 1)) none).length ≤ ds4.length + 1 := by
              rw [Wp.cutD_pre z0 (by omega), Wp.cutD_post (by omega) (by omega), List.length_take, List.length_drop]
              omega
            refine Wp.wO_cat .dat .dat (by rw [List.length_map, List.length_map]; exact Nat.le_trans (show _ ≤ 1000 by omega) (by decide)) ?_
            repeat' walk_at "w1"
            refine Wp.wL_list .dat ?_
            repeat' walk_at "w1"
            refine Wp.wO_cat .dat .dat (by rw [List.length_map, List.length_map, List.length_append]; exact Nat.le_trans (show _ ≤ 1000 by omega) (by decide)) ?_
            repeat' walk_at "w1"
            refine ⟨_, _, _, _, d1, d2, d3, _, rfl, rfl, a1.up (Nat.le_succ _), a2.up (Nat.le_succ _), a3.up (Nat.le_succ _), ar_lst (by omega) (by rw [List.length_append, List.length_append]; omega) fun e he => ?_⟩
            rw [Wp.cutD_pre z0 (by omega), Wp.cutD_post (by omega) (by omega)] at he
            rcases List.mem_append.mp he with he | he
            · rcases List.mem_append.mp he with he | he
              · exact r4 _ (List.mem_of_mem_take he)
              · exact re _ he
            · exact r4 _ (List.mem_of_mem_drop he)
        · obtain ⟨dq, hdq, aq⟩ : ∃ dq, atI [Tr.d d1, Tr.d d2, Tr.d d3, Tr.d d4] q = some (.d dq) ∧ Ar i dq := by
            have : q ≠ 0 := by simpa using e
            rcases (show q = 1 ∨ q = 2 ∨ q = 3 by omega) with rfl | rfl | rfl
            · exact ⟨d2, rfl, a2⟩
            · exact ⟨d3, rfl, a3⟩
            · exact ⟨d4, rfl, a4⟩
          have fin : ∀ x (o5 o6 : Option Tr), Ar (i + 1) x → Wp.wG K I (gSub (tVar 2) (tVar 4) rSetL) (.d x) [some (.v (.ref b)), some (gateTr n ds cs rs), some (.v (.ref p)), some (.d (.int (0 + (i : Nat)))), some (.d (.int q)), o5, o6]
              [(b, Wp.Cell.bag), (p, Wp.Cell.lst [Tr.d d1, Tr.d d2, Tr.d d3, Tr.d d4])] fun Γ os => ∃ o3 o4 o5 o6 d1 d2 d3 d4, Γ = [some (.v (.ref b)), some (gateTr n ds cs rs), some (.v (.ref p)), o3, o4, o5, o6] ∧
                os = [(b, Wp.Cell.bag), (p, Wp.Cell.lst [Tr.d d1, Tr.d d2, Tr.d d3, Tr.d d4])] ∧ Ar (i + 1) d1 ∧ Ar (i + 1) d2 ∧ Ar (i + 1) d3 ∧ Ar (i + 1) d4 := by
            intro x o5 o6 ax
            have : q ≠ 0 := by simpa using e
            repeat' walk_at "w1"
            rcases (show q = 1 ∨ q = 2 ∨ q = 3 by omega) with rfl | rfl | rfl
            · exact ⟨1, _, _, _, 1, rfl, rfl, rfl, rfl, _, _, _, _, d1, x, d3, d4, rfl, rfl, a1.up (Nat.le_succ _), ax, a3.up (Nat.le_succ _), a4.up (Nat.le_succ _)⟩
            · exact ⟨1, _, _, _, 2, rfl, rfl, rfl, rfl, _, _, _, _, d1, d2, x, d4, rfl, rfl, a1.up (Nat.le_succ _), a2.up (Nat.le_succ _), ax, a4.up (Nat.le_succ _)⟩
            · exact ⟨1, _, _, _, 3, rfl, rfl, rfl, rfl, _, _, _, _, d1, d2, d3, x, rfl, rfl, a1.up (Nat.le_succ _), a2.up (Nat.le_succ _), a3.up (Nat.le_succ _), ax⟩
          refine Wp.wS_cut (fun Γ os => ∃ dm, Ar (i + 1) dm ∧ Γ = [some (.v (.ref b)), some (gateTr n ds cs rs), some (.v (.ref p)), some (.d (.int (0 + (i : Nat)))), some (.d (.int q)), o5, some (.d dm)] ∧
            os = [(b, Wp.Cell.bag), (p, Wp.Cell.lst [Tr.d d1, Tr.d d2, Tr.d d3, Tr.d d4])]) ?_ ?_
          · repeat' walk_at "w1"
            refine Wp.wO_ixL (Wp.SeqL.own 1 rfl) hdq ?_
            repeat' walk_at "w1"
            refine Wp.wR_isi (.ty "list") (fun _ _ => Wp.kit_lst) ?_
            repeat' walk_at "w1"
            refine ⟨fun e4 => ?_, fun e4 => ?_⟩
            · obtain ⟨dsq, rfl⟩ : ∃ ds, dq = .lst ds := by cases dq <;> first | exact ⟨_, rfl⟩ | cases e4
              obtain ⟨lq, rq⟩ := aq.ls _ rfl
              repeat' walk_at "w1"
              refine Wp.wO_ixL (Wp.SeqL.own 1 rfl) hdq ?_
              refine Wp.wE_lst ?_
              repeat' walk_at "w1"
              refine Wp.wR_oneD hl (by simp) (by decide) fun x hx => ?_
              repeat' walk_at "w1"
              refine Wp.wO_cat .dat .dat (by rw [List.length_map]; exact Nat.le_trans (show _ ≤ 1000 by simp; omega) (by decide)) ?_
              repeat' walk_at "w1"
              refine ⟨_, ar_lst (by omega) (by rw [List.length_append]; simp; omega) fun e he => ?_, rfl, rfl⟩
              rcases List.mem_append.mp he with he | he
              · exact rq _ he
              · rw [List.mem_singleton] at he
                subst he
                simp only [List.mem_cons, List.not_mem_nil, or_false] at hx
                rcases hx with rfl | rfl | rfl | rfl | rfl <;> exact ro_el ⟨fine_of (by decide +kernel), rfl⟩
            · repeat' walk_at "w1"
              exact ⟨_, ar_lst (ds := []) (by omega) (by simp) fun e he => (nomatch he), rfl, rfl⟩
          · rintro Γ os ⟨dm, am, rfl, rfl⟩
            repeat' walk_at "w1"
            refine Wp.wE_lst ?_
            repeat' walk_at "w1"
            intro d hd
            repeat' walk_at "w1"
            refine Wp.wO_rep .dat (by decide) (by decide) (by rw [List.length_map, List.length_map]; exact Nat.le_trans (show _ ≤ 1000 by simp; omega) (by decide)) ?_
            repeat' walk_at "w1"
            refine Wp.wR_oneD hl (by simp) (show 4 < 1000000 by decide) fun x hx => ?_
            refine fin x _ _ ?_
            simp only [List.mem_cons, List.not_mem_nil, or_false] at hx
            rcases hx with rfl | rfl | rfl | rfl
            · exact ar_gd hd
            · exact am
            · exact ar_lst (by omega) (by simp) fun e he => (nomatch he)
            · refine ar_lst (by omega) (by simp; omega) fun e he => ?_
              obtain ⟨l, hl, he⟩ := List.mem_flatten.mp he
              rw [List.eq_of_mem_replicate hl] at he
              obtain ⟨w, hw, rfl⟩ := List.mem_map.mp he
              exact ro_el (el_tx (tx_name (wf.nd.ok w hw)))
  · rintro Γ os ⟨o3, o4, o5, o6, d1, d2, d3, d4, rfl, rfl, a1, a2, a3, a4⟩
    have : (Wp.rngT 0 (1 + m).toNat).length ≤ 4 := by rw [Wp.rngT_len]; omega
    refine Wp.wS_frz 2 1 rfl rfl ?_
    repeat' walk_at "w1"
    exact k _ _ _ _ (a1.up this) (a2.up this) (a3.up this) (a4.up this)
end
end K

set_option Elab.async false
set_option linter.all false
set_option maxRecDepth 100000
set_option maxHeartbeats 4000000
/-! t[::-1] of a tuple. -/
namespace De
open PySem PySem.Spec PyProof.Rows L2 G D L S C
section
variable {prog : Program} {w : World} {A : Around} {E : Value → Shared → Prop} {s : Shared}
theorem fm_congr {α β : Type} {f g : α → Option β} : ∀ {l : List α}, (∀ x ∈ l, f x = g x) → l.filterMap f = l.filterMap g
  | [], _ => rfl
  | x :: l, h => by rw [List.filterMap_cons, List.filterMap_cons, h x List.mem_cons_self, fm_congr fun y hy => h y (List.mem_cons_of_mem _ hy)]
theorem rev_pick (xs : Array Value) : ((List.range xs.size).filterMap fun (k : Nat) => xs[(((xs.size : Int) - 1) + (k : Int) * (-1)).toNat]?).toArray = xs.toList.reverse.toArray := by
  congr 1
  have all : ∀ l : List Value, l = (List.range l.length).filterMap fun k => l[k]? := by
    intro l
    induction l with
    | nil => rfl
    | cons x l ih =>
      rw [List.length_cons, List.range_succ_eq_map, List.filterMap_cons]
      simp only [List.getElem?_cons_zero, List.filterMap_map]
      rw [show ((fun k => (x :: l)[k]?) ∘ Nat.succ) = fun k => l[k]? from by funext k; simp]
      rw [← ih]
  conv => rhs; rw [all xs.toList.reverse]
  rw [List.length_reverse, Array.length_toList]
  apply fm_congr
  intro k hk
  have hk : k < xs.size := List.mem_range.mp hk
  have e1 : (((xs.size : Int) - 1) + (k : Int) * (-1)).toNat = xs.size - 1 - k := by omega
  rw [e1, List.getElem?_reverse (by simpa using hk)]
  simp
theorem sliceApplied_rev {sl : Addr} {vl vu vs : Value} {n : Nat} {Q : Int × Int × Nat → Shared → Prop} (hs : s.heap.IsSliceOf sl vl vu vs) (pl : IsPart vl none) (pu : IsPart vu none) (ps : IsPart vs (some (-1)))
    (h : Q ((n : Int) - 1, -1, n) s) : wpAny (model prog w) A (Builtin.Slice.sliceApplied (.ref sl) (pure (n : Int))) Q E s := by
  obtain ⟨os, hos, hcs, hds⟩ := id hs
  unfold Builtin.Slice.sliceApplied Builtin.Slice.sliceFields
  refine wpAny_bind (wpAny_bind (wpAny_field hos hds (x := vl) rfl (wpAny_bind (wpAny_field hos hds (x := vu) rfl (wpAny_bind (wpAny_field hos hds (x := vs) rfl (wpAny_pure ?_)))))))
  refine wpAny_bind (HT.slicePart_ ps ?_)
  show wpAny _ _ (if ((-1 : Int) == 0) = true then _ else _) _ _ s
  rw [if_neg (by decide)]
  refine wpAny_bind (HT.slicePart_ pl (wpAny_bind (HT.slicePart_ pu (wpAny_bind (wpAny_pure ?_)))))
  show wpAny _ _ (match Builtin.Slice.sliceAdjust none none (-1) (n : Int) with | (lo, hi) => pure (lo, (-1 : Int), Builtin.Slice.slicePlaces lo hi (-1))) _ _ s
  have e1 : Builtin.Slice.sliceAdjust none none (-1) (n : Int) = ((n : Int) - 1, -1) := by
    unfold Builtin.Slice.sliceAdjust
    simp
  have e2 : Builtin.Slice.slicePlaces ((n : Int) - 1) (-1) (-1) = n := by
    unfold Builtin.Slice.slicePlaces
    rw [if_neg (by decide)]
    split
    · rw [show (-(-1) : Int) = 1 from rfl, Int.ediv_one]; omega
    · omega
  rw [e1]
  show wpAny _ _ (pure ((n : Int) - 1, (-1 : Int), Builtin.Slice.slicePlaces ((n : Int) - 1) (-1) (-1))) _ _ s
  rw [e2]
  exact wpAny_pure h
theorem getItem_tuple_rev {t sl : Addr} {items : Array Value} {vl vu vs : Value} {Q : Value → Shared → Prop} (ht : IsTup s.heap t items) (hs : s.heap.IsSliceOf sl vl vu vs) (pl : IsPart vl none) (pu : IsPart vu none) (ps : IsPart vs (some (-1)))
    (h : Q (.ref s.heap.objs.size) { s with heap := s.heap.push { cls := .type "tuple", data := .seq items.toList.reverse.toArray } })
    (hsz : items.size ≤ sizeLine) : wpAny (model prog w) A (getItem (.ref t) (.ref sl)) Q E s := by
  have htake : sizeOk (.seq items.toList.reverse.toArray) := by
    show items.toList.reverse.toArray.size ≤ sizeLine
    rw [List.size_toArray, List.length_reverse, Array.length_toList]
    exact hsz
  obtain ⟨os, hos, hcs, hds⟩ := id hs
  have hTs : s.TypeIs (.ref sl) "slice" := ⟨os, hos, hcs⟩
  unfold getItem
  try with_reducible refine wpAny_holding ?_
  first | refine wpAny_bind (wpAny_pure ?_) | skip
  refine wpAny_bind (wpAny_sequenceKey ht.typeIs (by decide) ?_)
  refine wpAny_bind (wpAny_callSpecial?_slot (name := Str.ofString "__getitem__") ht.typeIs PyProof.Rows.slot_tuple_getitem
    (wpAny_call_entry PyProof.Rows.slot_tuple_getitem ht.typeIs PyProof.Rows.entry_tuple_getitem ?_ (PyProof.Rows.args_tuple_getitem _ _)))
  show wpAny _ _ (Builtin.Tuple.tupleItemsOf (.ref t) >>= _) _ _ s
  refine wpAny_bind (tupleItemsOf_ ht ?_)
  refine wpAny_bind (wpAny_typeOf hTs ?_)
  rw [if_pos (by decide)]
  refine wpAny_bind (sliceApplied_rev hs pl pu ps ?_)
  have hno : ¬ ((((items.size : Int) - 1) == 0 && (-1 : Int) == 1 && items.size == items.size) = true) := by
    rw [show ((-1 : Int) == 1) = false from rfl]
    simp
  show wpAny _ _ (if ((((items.size : Int) - 1) == 0 && (-1 : Int) == 1 && items.size == items.size) = true) then _ else _) _ _ s
  rw [if_neg hno, rev_pick]
  first
    | exact wpAny_bind (m := Builtin.Tuple.tupleExact _) (wpAny_newObj_type (wpAny_pure ⟨_, rfl, wpAny_pure h⟩) htake)
    | exact wpAny_bind (m := Builtin.Tuple.tupleExact _) (wpAny_newObj_type (wpAny_bind (wpAny_pure (wpAny_pure ⟨_, rfl, wpAny_pure h⟩))) htake)
    | exact wpAny_bind (wpAny_bind (m := Builtin.Tuple.tupleExact _) (wpAny_newObj_type (wpAny_pure (wpAny_pure ⟨_, rfl, wpAny_pure h⟩)) htake))
    | exact wpAny_bind (wpAny_bind (m := Builtin.Tuple.tupleExact _) (wpAny_newObj_type (wpAny_pure ⟨_, rfl, wpAny_pure h⟩) htake))
end
section
variable {X : Cx}
def tRevT (K : PySem.W.Frag) (te : TE) : TE := fun σ H Q => te σ H fun x H1 => ∃ a xs, x = .ref a ∧ SqT K H1 a xs ∧ ∀ p, H1 p = none → Q (.ref p) (upd H1 p (.tup xs.reverse))
theorem pe_revT {e : Expr} {te : TE} {k : Nat} {p1 p2 p3 pos : Pos} (he : PE X e te) : PE X (.Subscript e (.Slice none none (some (.UnaryOp .USub (.Constant (.int 1) k p1) p2)) p3) pos) (tRevT X.K te) := by
  refine ⟨fun pins s σ H Q I h => ?_⟩
  refine Subscript_ (thn (he.run pins s σ H _ I h) fun v s1 ⟨x, H1, I1, r1, q1⟩ => ?_)
  obtain ⟨a, xs, ex, hx, q⟩ := q1
  subst ex
  cases r1
  have hst : PO X (some (.UnaryOp .USub (.Constant (.int 1) k p1) p2)) (tPart (tUn (rU fun i => .int (-i)) (tC (.int 1)))) := po_some (pe_un un_neg pe_int)
  refine wpAny_Slice (thn (po_none.run pins s1 σ H1 (fun o H2 => o = none ∧ H2 = H1) I1 ⟨rfl, rfl⟩) fun vl s2 ⟨l, H2, I2, pl, el, e2⟩ => ?_)
  subst el e2
  refine thn (po_none.run pins s2 σ H2 (fun o H3 => o = none ∧ H3 = H2) I2 ⟨rfl, rfl⟩) fun vu s3 ⟨u, H3, I3, pu, eu, e3⟩ => ?_
  subst eu e3
  refine thn (hst.run pins s3 σ H3 (fun o H4 => o = some (-1) ∧ H4 = H3) I3 ⟨1, rfl, -1, rfl, rfl, rfl⟩) fun vs s4 ⟨o, H4, I4, ps, eo, e4⟩ => ?_
  subst eo e4
  have I5 : Inv X pins σ H4 { s4 with heap := s4.heap.push { cls := .type "slice", data := .fields #[vl, vu, vs] } } := I4.kept (t' := s4.toks) fun b ob q => Heap.get?_push_of_some _ q
  obtain ⟨its, r, ht, hz⟩ := I5.tuple hx
  have hlen := r.length
  show wpAny (model X.prog X.w) X.A (subscriptTail e (.Slice none none (some (.UnaryOp .USub (.Constant (.int 1) k p1) p2)) p3) (.ref a) (.ref s4.heap.objs.size)) (EP X pins σ Q) X.xe { s4 with heap := s4.heap.push { cls := .type "slice", data := .fields #[vl, vu, vs] } }
  refine tail_any (ops := [.ref a, .ref s4.heap.objs.size]) ht.typeIs (PyProof.Rows.slot_tuple_getitem.lookup) ?_ (by with_unfolding_all rfl)
  refine getItem_tuple_rev ht (Heap.IsSliceOf.new _ vl vu vs) pl pu ps ?_ (by rw [List.size_toArray]; omega)
  refine ⟨.ref _, _, I5.laid (t' := s4.toks) (o := .tup xs.reverse) (fun b ob q => Heap.get?_push_of_some _ q) (Nat.le_refl _) ?_, rfl, q _ (I5.hok.fresh (Nat.le_refl _))⟩
  exact ⟨by rw [List.length_reverse]; exact hz, its.reverse, r.reverse, _, Heap.get?_push_size _ rfl, rfl, _, rfl⟩
end
end De

set_option Elab.async false
set_option linter.all false
set_option maxRecDepth 100000
set_option maxHeartbeats 4000000
/-! list(d.items()) of a dict with tuple keys. -/
namespace De
open PySem PySem.Spec PyProof.Rows L2 G D L S C
open DT (Raw Made)
open L2.DX (itemsO pget takeT)
section
variable {prog : Program} {w : World} {A : Around} {E : Value → Shared → Prop} {s : Shared} {r d : Addr} {es : Array DictEntry} {ep : Nat}
theorem li_init {R : Result → Shared → Prop} (hh : A.handled = none) (hv : s.heap.IsItemsView r d) (hm : Raw s.heap d es ep) (S : Addr) (hSr : S ≠ r) (hSd : d ≠ S) (hS : s.heap.get? S = some { cls := .type "list", data := .seq #[] })
    (hR : ∀ h' tk acc c as, (∀ b o, b ≠ S → s.heap.get? b = some o → h'.get? b = some o) → h'.get? S = some { cls := .type "list", dict := none, data := .seq acc c, slots := #[] } → as.length = es.size → Made es S h' as →
      acc.toList = as.map Value.ref → R (.ok (.ret .none)) { s with heap := h', toks := tk }) (hn : es.size ≤ sizeLine) :
    wpAny (model prog w) A.in1 (Builtin.«list.__init__» ⟨[.ref S, .ref r], []⟩)
      (fun fin s' => match fin with | .done f => R (.ok f) s' | .again c' => c'.quiet = true ∧ codeAny (model prog w) A c' R s') (fun e s' => R (.error e) s') s := by
  show wpAny _ _ (do let old ← Builtin.List.listItems (.ref S); Builtin.List.listUpdate (.ref S) (fun _ => #[]); letGo old.toList.reverse; Builtin.List.listExtendWith (.ref S) (.ref r) .none) _ _ s
  refine wpAny_bind ?_
  unfold Builtin.List.listItems
  refine wpAny_bind (wpAny_seqItems hS rfl (wpAny_pure ?_))
  show wpAny _ _ (updateSeq S (fun _ => #[]) >>= fun _ => letGo (#[] : Array Value).toList.reverse >>= fun _ => Builtin.List.listExtendWith (.ref S) (.ref r) .none) _ _ s
  refine wpAny_bind (wpAny_updateSeq hS rfl ?_)
  have hS₂ := Heap.get?_update_self (Obj.mapSeq (fun _ => (#[] : Array Value))) hS rfl
  have oth : ∀ b o, b ≠ S → s.heap.get? b = some o → (s.heap.update S (Obj.mapSeq (fun _ => (#[] : Array Value)))).get? b = some o :=
    fun b o hb e => (Heap.get?_update_other _ _ (Ne.symm hb)).trans e
  refine wpAny_bind (wpAny_letGo ?_)
  refine DT.extI (es := es) (ep := ep) hh (let ⟨o, ho, x⟩ := hv; ⟨o, oth r o hSr.symm ho, x⟩) (hm.at' fun o e => oth d o hSd e) S hSr hSd .none _ hS₂ (fun h' tk acc c as hk hS' hl hG hacc => ?_) hn
  exact hR h' tk acc c as (fun b o hb e => hk b o hb (oth b o hb e)) hS' hl (hG.low (Nat.le_of_lt (Heap.lt_size hS₂))) hacc
theorem li_call {Q : Value → Shared → Prop} (hh : A.handled = none) (hv : s.heap.IsItemsView r d) (hm : Raw s.heap d es ep) (hn : es.size ≤ sizeLine)
    (hQ : ∀ h' tk acc c as, (∀ b o, s.heap.get? b = some o → h'.get? b = some o) → h'.get? s.heap.objs.size = some { cls := .type "list", dict := none, data := .seq acc c, slots := #[] } → as.length = es.size → Made es s.heap.objs.size h' as →
      acc.toList = as.map Value.ref → Q (.ref s.heap.objs.size) { s with heap := h', toks := tk }) :
    wpAny (model prog w) A (call (.type "list") [.ref r]) Q E s := by
  refine callType_codes (Q₁ := fun obj s₁ => obj = .ref s.heap.objs.size ∧ s₁ = { s with heap := s.heap.push { cls := .type "list", data := .seq #[] } }) PySem.F.called_list (PySem.F.typeCall_list_1 _) PySem.F.entry_list_init
    (code_list_new _ ⟨rfl, rfl⟩) fun obj s₁ h₁ => ?_
  obtain ⟨rfl, rfl⟩ := h₁
  have hS : (s.heap.push { cls := .type "list", data := .seq #[] }).get? s.heap.objs.size = some { cls := .type "list", data := .seq #[] } := Heap.get?_push_size _ rfl
  have hr : r < s.heap.objs.size := let ⟨_, ho, _⟩ := hv; Heap.lt_size ho
  have hd : d < s.heap.objs.size := hm.lt
  refine ⟨⟨_, hS, rfl⟩, PySem.F.args_list_init_2 _ _, li_init (es := es) (ep := ep) (A := A.in1) hh (let ⟨o, ho, x⟩ := hv; ⟨o, Heap.get?_push_of_some _ ho, x⟩) (hm.push _) _ (Nat.ne_of_gt hr) (Nat.ne_of_lt hd) hS (fun h' tk acc c as hk hS' hl hG hacc => ?_) hn⟩
  exact ⟨rfl, hQ h' tk acc c as (fun b o e => hk b o (Nat.ne_of_lt (Heap.lt_size e)) (Heap.get?_push_of_some _ e)) hS' hl hG hacc⟩
end
section
variable {X : Cx}
def rListItemsT : List V → Hp → VK → Prop := fun xs H Q => ∃ (p a : Addr) (kvs : List (List Key × V)), xs = [.ref p] ∧ H p = some (itemsO p a) ∧ H a = some (.dT kvs) ∧
  ∀ (H' : Hp) (l : Addr) (as : List Addr), Same H H' → H l = none → (∀ t ∈ as, H t = none) → l ∉ as → H' l = some (.lst (as.map V.ref)) → Paired (fun (t : Addr) (q : List Key × V) => ∃ b, H' t = some (.tup [.ref b, q.2]) ∧ H b = some (.tup (q.1.map kV))) as kvs → Q (.ref l) H'
theorem call_listItemsT (hc : X.calm = true) : CallR X (.type "list") rListItemsT := by
  intro pins s σ H xs us Q I r h
  obtain ⟨p, a, kvs, rfl, hp, ha, q⟩ := h
  obtain rfl := Vals.ref1 r
  have view : s.heap.IsItemsView p a := (show ObjOk X.prog X.w H s.heap p (itemsO p a) from I.hok p _ hp).1
  obtain ⟨z, hd, xs', rel, o, es, ep, ho, hx, hdat, hes, his, hn⟩ := dt_of I.hok ha
  have l1 : kvs.length = xs'.length := Paired.length rel
  have l2 : es.size = xs'.length := size_of_entries hes
  have hh : X.A.handled = none := I.ok.hd hc
  refine li_call (es := es) (ep := ep) hh view ⟨o, ho, hx, hdat⟩ (by omega) fun h' tk acc c as hk hS hl hG hacc => ?_
  have nd : as.Nodup := List.Pairwise.imp (fun h => Nat.ne_of_lt h) hG.rise
  have I1 : Inv X pins σ H { s with heap := h', toks := tk } := I.kept (t' := tk) hk
  have hn0 : H s.heap.objs.size = none := I.hok.fresh (Nat.le_refl _)
  have rv : Vals (as.map V.ref) acc.toList := by
    rw [hacc]
    exact LiI.vals_refs as
  have I2 : Inv X pins σ (upd H s.heap.objs.size (.lst (as.map V.ref))) { s with heap := h', toks := tk } :=
    I1.take (h' := h') (t' := tk) (fun b ob _ e => e) (I.fpOk (Nat.le_refl _) hn0) ⟨by rw [List.length_map]; omega, acc.toList, c, rv, by rw [Array.toArray_toList]; exact hS⟩
  have above : ∀ t ∈ as, s.heap.objs.size < t := hG.above
  have pr : ∀ (j : Nat) (b : Addr), as[j]? = some b → ∃ (e : List Key × V) (kq : Addr) (u : Value), kvs[j]? = some e ∧ H kq = some (.tup (e.1.map kV)) ∧ RelV e.2 u ∧ h'.get? b = some { cls := .type "tuple", data := .seq #[Value.ref kq, u] } := by
    intro j b hj
    obtain ⟨en, he, hg⟩ := hG.pairs j b hj
    rw [entry_at hes j] at he
    cases hxj : xs'[j]? with
    | none =>
      rw [hxj] at he
      exact nomatch (show (none : Option DictEntry) = some en from he)
    | some x =>
      rw [hxj] at he
      have een : entryOfKey (tupleKind (mixKind X.prog X.w)) x = en := Option.some.inj he
      obtain ⟨e0, he0, r1, r2, r3⟩ := pget rel hxj
      refine ⟨e0, x.2.1, x.2.2, he0, r2, r3, ?_⟩
      rw [hg, ← een]
      rfl
  obtain ⟨H2, I3, g, qt⟩ := takeT (P := fun b vs => ∃ (j : Nat) (e : List Key × V) (kq : Addr), as[j]? = some b ∧ kvs[j]? = some e ∧ vs = [.ref kq, e.2] ∧ H kq = some (.tup (e.1.map kV))) I as _ I2 nd fun b hb => by
    obtain ⟨j, hj⟩ := List.mem_iff_getElem?.mp hb
    obtain ⟨e, kq, u, he, hkq, ru, hg⟩ := pr j b hj
    have hb0 : H b = none := I.hok.fresh (Nat.le_of_lt (above b hb))
    refine ⟨Nat.le_of_lt (above b hb), by rw [upd_ne (Nat.ne_of_gt (above b hb))]; exact hb0, _, ⟨j, e, kq, hj, he, rfl, hkq⟩, fun H2 => ⟨by show 2 ≤ sizeLine; decide, [.ref kq, u], .cons rfl (.cons ru .nil), ⟨_, hg, rfl, _, rfl⟩⟩⟩
  have pairs : Paired (fun (t : Addr) (q : List Key × V) => ∃ b, H2 t = some (.tup [.ref b, q.2]) ∧ H b = some (.tup (q.1.map kV))) as kvs := by
    have : ∀ (as : List Addr) (kvs : List (List Key × V)), as.length = kvs.length → (∀ (j : Nat) (t : Addr) (e : List Key × V), as[j]? = some t → kvs[j]? = some e → ∃ b, H2 t = some (.tup [.ref b, e.2]) ∧ H b = some (.tup (e.1.map kV))) →
        Paired (fun (t : Addr) (q : List Key × V) => ∃ b, H2 t = some (.tup [.ref b, q.2]) ∧ H b = some (.tup (q.1.map kV))) as kvs := by
      intro as
      induction as with
      | nil => intro kvs h _; cases kvs with | nil => exact .nil | cons _ _ => cases h
      | cons t as ih =>
        intro kvs h k
        cases kvs with
        | nil => cases h
        | cons e kvs => exact .cons (k 0 t e rfl rfl) (ih kvs (Nat.succ.inj h) fun j t' e' a b => k (j + 1) t' e' a b)
    refine this as kvs (by omega) fun j t e hj he => ?_
    obtain ⟨vs, ⟨i, e', kq, h1, h2, h3, h4⟩, h5⟩ := qt t (List.mem_of_getElem? hj)
    have ij : i = j := by
      obtain ⟨p1, q1⟩ := List.getElem?_eq_some_iff.mp h1
      obtain ⟨p2, q2⟩ := List.getElem?_eq_some_iff.mp hj
      exact (List.getElem_inj nd).mp (q1.trans q2.symm)
    subst ij
    rw [he] at h2
    cases h2
    exact ⟨kq, by rw [h5, h3], h4⟩
  refine ⟨.ref s.heap.objs.size, H2, I3, rfl, q H2 _ as (fun b o e => g b o (by rw [upd_ne (ne_of_none e hn0)]; exact e)) hn0 (fun t ht => I.hok.fresh (Nat.le_of_lt (above t ht))) (fun z => Nat.lt_irrefl _ (above _ z)) (g _ _ upd_same) pairs⟩
end
end De

set_option Elab.async false
set_option linter.all false
set_option maxRecDepth 100000
set_option maxHeartbeats 4000000
/-! Tuples turned and joined, == of data, list(d.items()) with tuple keys, data seen through cells. -/
namespace Wp
open PySem PySem.Spec PyProof.Rows L2 G D L C Lt
theorem RepTs.rev {K : PySem.W.Frag} {F : Hp} : ∀ {ts : List Tr} {vs : List V}, RepTs K F vs ts → RepTs K F vs.reverse ts.reverse
  | [], _, r => by cases (show _ = [] from r); exact rfl
  | t :: ts, _, ⟨v, r, e, a, b⟩ => by
    subst e
    rw [List.reverse_cons, List.reverse_cons]
    exact b.rev.append (.one a)
section
variable {K : PySem.W.Frag} {I : Ini} {Γ : Gm} {os : Os} {Φ : Os → Tr → Prop} {F H F1 H1 : Hp} {os1 : Os} {P : Po} {D : Ends} {Q : VK} {v : V} {x y : Tr} {ts us : List Tr}
variable {t u ta tb tc te td ty tv : TE} {tt tu : TT} {tr : TA}
theorem wL_tup {lo hi : Option Int} (hx : asT x = some ts) (hn : ¬ (HT.sIx ts.length 0 lo = 0 ∧ HT.sIx ts.length ts.length hi = ts.length)) (h : Φ os (mkTup (cutT ts lo hi))) : wL K I (rSlT K) x lo hi os Φ := fun F H v Q n r c => by
  obtain ⟨a, xs, rfl, ea, _, rx⟩ := asT_at hx n r
  exact ⟨a, xs, rfl, .inl (.inl ea), by rw [rx.length]; exact hn, fun p hp => put_tup n hp (cut_rep rx _ _) c h⟩
theorem wE_revT (h : wE K I ta Γ os fun os1 x => ∃ ts, asT x = some ts ∧ Φ os1 (mkTup ts.reverse)) : wE K I (De.tRevT K ta) Γ os Φ := fun σ F H Q n e c => by
  refine h σ F H _ n e fun os1 x v F1 H1 h1 m1 r1 => ?_
  obtain ⟨ts, ex, h1⟩ := h1
  obtain ⟨a, xs, rfl, ea, _, rx⟩ := asT_at ex m1.now r1
  exact ⟨a, xs, rfl, .inl (.inl ea), fun p hp => put_tup m1.now hp rx.rev (c.step m1) h1⟩
theorem wO_catA (hx : asT x = some ts) (hy : asT y = some us) (hl : ts.length + us.length ≤ sizeLine) (h : Φ os (mkTup (ts ++ us))) : wO K I (rCatA K) x y os Φ := fun F H v u Q n r s c => by
  obtain ⟨a, xs, rfl, ea, fa, rx⟩ := asT_at hx n r
  obtain ⟨b, ys, rfl, eb, fb, ry⟩ := asT_at hy n s
  refine ⟨a, b, xs, ys, rfl, rfl, .inl (.inl ea), .inl (.inl eb), by rw [rx.length, ry.length]; exact hl, fun z => ?_, fun _ z => ?_, fun _ _ p hp => put_tup n hp (rx.append ry) c h⟩
  · subst z
    cases ts with
    | nil => exact c os _ _ F H h n.self (RepT.mkTup ⟨b, ys, rfl, fb, ry⟩)
    | cons _ _ => obtain ⟨_, _, z, _⟩ := rx; cases z
  · subst z
    cases us with
    | nil => rw [List.append_nil] at h; exact c os _ _ F H h n.self (RepT.mkTup ⟨a, xs, rfl, fa, rx⟩)
    | cons _ _ => obtain ⟨_, _, z, _⟩ := ry; cases z
/-! == of data -/
mutual
theorem rep_dp : ∀ (d : Dat) {v : V}, Rep K H v d → d.pure = true → d.py.canLay0 = true → Dp K H v d.py
  | .non, _, h, _, _ => by cases (show _ = V.non from h); exact .non
  | .bl b, _, h, _, _ => by cases (show _ = V.bl b from h); exact .bl b
  | .int i, _, h, _, _ => by cases (show _ = V.int i from h); exact .int i
  | .str x, _, h, _, _ => by cases (show _ = V.str x from h); exact .str x
  | .lst ds, _, ⟨a, xs, e, ha, hs⟩, p, c => by
    subst e
    exact .lst (.inl (.inl ha)) (rep_dpAll ds hs p (by simpa [Dat.py, PyData.canLay0] using c))
  | .tup ds, _, ⟨a, xs, e, ha, hs⟩, p, c => by
    subst e
    exact .tup (.inl (.inl ha)) (rep_dpAll ds hs p (by simpa [Dat.py, PyData.canLay0] using c))
  | .dct ks ds, _, _, _, c => by simp [Dat.py, PyData.canLay0] at c
  | .obj _ _, _, _, p, _ => by cases p
theorem rep_dpAll : ∀ (ds : List Dat) {vs : List V}, RepAll K H vs ds → pureAll ds = true → PyData.canLayAll0 (pyAll ds) = true → DpAll K H vs (pyAll ds)
  | [], _, h, _, _ => by cases (show _ = [] from h); exact .nil
  | d :: ds, _, ⟨v, t, e, h1, h2⟩, p, c => by
    subst e
    have p' : (d.pure && pureAll ds) = true := p
    rw [Bool.and_eq_true] at p'
    have c' : d.py.canLay0 = true ∧ PyData.canLayAll0 (pyAll ds) = true := by
      simpa [pyAll, PyData.canLayAll0] using c
    exact .cons (rep_dp d h1 p'.1 c'.1) (rep_dpAll ds h2 p'.2 c'.2)
end
/-- fit for == -/
structure Shp (d : Dat) : Prop where
  pu : d.pure = true
  sh : SeqAt.shaped d.py = true
theorem wO_eqD {d e : Dat} (hd : Shp d) (he : Shp e) (h : Φ os (.d (.bl (PyData.eqv d.py e.py)))) : wO K I (rEqD K) (.d d) (.d e) os Φ := fun F H v u Q n r s c =>
  ⟨_, _, rep_dp d (Rep.sub n.sub d r) hd.pu (SeqAt.canLay_of_shaped hd.sh), rep_dp e (Rep.sub n.sub e s) he.pu (SeqAt.canLay_of_shaped he.sh), hd.sh, he.sh, c os _ _ F H h n.self rfl⟩
theorem wO_neD {d e : Dat} (hd : Shp d) (he : Shp e) (h : Φ os (.d (.bl (!PyData.eqv d.py e.py)))) : wO K I (rNeD K) (.d d) (.d e) os Φ := fun F H v u Q n r s c =>
  ⟨_, _, rep_dp d (Rep.sub n.sub d r) hd.pu (SeqAt.canLay_of_shaped hd.sh), rep_dp e (Rep.sub n.sub e s) he.pu (SeqAt.canLay_of_shaped he.sh), hd.sh, he.sh, c os _ _ F H h n.self rfl⟩
/-! all tuples of the heap are among what never changes -/
def TupAll (F H : Hp) : Prop := ∀ a xs, H a = some (.tup xs) → F a = some (.tup xs)
theorem Now.tuply (n : Now K I F H os) : ∃ F1, Nxt K I F H os F1 H os ∧ TupAll F1 H := by
  have m := n.ext (F1 := fun y => match F y with | some o => some o | none => match H y with | some (.tup xs) => some (.tup xs) | _ => none) (fun y o e => by simp [e]) (fun y o e => ?_) (.refl _) (fun y o e => ?_)
  · refine ⟨_, m, fun p xs e => ?_⟩
    cases q : F p with
    | some o =>
      rcases n.sub _ _ q with z | ⟨_, _, _, _, z⟩ <;> rw [e] at z <;> cases z
      simp [q]
    | none => simp [q, e]
  · cases q : F y with
    | some u => simp [q] at e; subst e; exact n.sub _ _ q
    | none =>
      simp only [q] at e
      split at e
      · rename_i xs z; rw [z]; exact .inl e
      · cases e
  · cases q : F y with
    | some u => simp [q] at e; subst e; exact .inl rfl
    | none =>
      simp only [q] at e
      split at e
      · cases e; exact .inr (.inr ⟨_, rfl⟩)
      · cases e
/-! made of tuples and of what stands by itself -/
mutual
def tonly : Dat → Bool
  | .non => true
  | .bl _ => true
  | .int _ => true
  | .str _ => true
  | .tup ds => tonlyAll ds
  | _ => false
def tonlyAll : List Dat → Bool
  | [] => true
  | d :: ds => tonly d && tonlyAll ds
end
mutual
theorem Rep.tups {G : Hp} (h : ∀ a xs, H a = some (.tup xs) → G a = some (.tup xs)) : ∀ (d : Dat) {v : V}, tonly d = true → Rep K H v d → Rep K G v d
  | .non, _, _, r => r
  | .bl _, _, _, r => r
  | .int _, _, _, r => r
  | .str _, _, _, r => r
  | .tup ds, _, t, ⟨a, xs, e, q, r⟩ => ⟨a, xs, e, h _ _ q, RepAll.tups h ds t r⟩
  | .lst _, _, t, _ => by cases t
  | .dct _ _, _, t, _ => by cases t
  | .obj _ _, _, t, _ => by cases t
theorem RepAll.tups {G : Hp} (h : ∀ a xs, H a = some (.tup xs) → G a = some (.tup xs)) : ∀ (ds : List Dat) {vs : List V}, tonlyAll ds = true → RepAll K H vs ds → RepAll K G vs ds
  | [], _, _, r => r
  | d :: ds, _, t, ⟨v, r, e, q, s⟩ => by
    have t' : (tonly d && tonlyAll ds) = true := t
    rw [Bool.and_eq_true] at t'
    exact ⟨v, r, e, Rep.tups h d t'.1 q, RepAll.tups h ds t'.2 s⟩
end
/-! list(d.items()), d a dict with tuple keys -/
theorem put_pairsT {K : PySem.W.Frag} {F F1 : Hp} {as : List Addr} {kvs : List (List Key × V)} {ps : List (List Key × Tr)} {H2 H3 : Hp} (s : Same F F1) (h : RepP K F kvs ps)
    (pr : Paired (fun (t : Addr) (q : List Key × V) => ∃ b, H2 t = some (.tup [.ref b, q.2]) ∧ H3 b = some (.tup (q.1.map kV))) as kvs)
    (f : ∀ p xs, H2 p = some (.tup xs) → F1 p = some (.tup xs)) (f3 : ∀ p xs, H3 p = some (.tup xs) → F1 p = some (.tup xs)) : RepTs K F1 (as.map V.ref) (ps.map fun p => mkTup [.d (S.keyDat p.1), p.2]) := by
  induction pr generalizing ps with
  | nil =>
    cases ps with
    | nil => exact rfl
    | cons _ _ => have := h.len; cases this
  | @cons a kv as kvs h1 h2 ih =>
    cases ps with
    | nil => have := h.len; cases this
    | cons p ps =>
      obtain ⟨e, r, c⟩ := h.inv
      obtain ⟨b, h1, h3⟩ := h1
      refine ⟨.ref a, _, rfl, RepT.mkTup ⟨a, _, rfl, f _ _ h1, _, _, rfl, ?_, _, _, rfl, RepT.mono s _ r, rfl⟩, ih c⟩
      rw [e] at h3
      exact S.rep_key (f3 _ _ h3)
theorem wE_itemsT (hl : I.lk = []) (h : wE K I td Γ os fun os1 x => ∃ ks ts, x = .dT ks ts ∧ ks.length = ts.length ∧ Φ os1 (mkLst ((ks.zip ts).map fun p => mkTup [.d (S.keyDat p.1), p.2]))) : wE K I (tCB De.rListItemsT (tCons (tBM0 K "dict" L2.DX.rItemsT td) tNil)) Γ os Φ := fun σ F H Q n e c => by
  refine h σ F H _ n e fun os1 x v F1 H1 h1 m1 r1 => ?_
  obtain ⟨ks, ts, rfl, el, h1⟩ := h1
  obtain ⟨a, kvs, rfl, fa, ek, rk⟩ := r1
  have sub1 : Same F1 H1 := by have := m1.now.sub; rw [hl] at this; exact this.same
  refine ⟨.inr (.inr (.inl ⟨rfl, .inr ⟨kvs, sub1 _ _ fa⟩⟩)), a, kvs, rfl, rfl, sub1 _ _ fa, fun p hp => ?_⟩
  have s0 : Same H1 (upd H1 p (L2.DX.itemsO p a)) := same_upd hp
  refine ⟨p, a, kvs, rfl, upd_same, s0 _ _ (sub1 _ _ fa), fun H' l as sH nl nas nla el' pr => ?_⟩
  have m2 := m1.now.grow s0
  have s1 : Same H1 H' := s0.trans sH
  let F2 : Hp := fun y => match F1 y with | some o => some o | none => match H' y with | some (.tup xs) => some (.tup xs) | some (.lst xs) => if y = l then some (.lst xs) else none | _ => none
  have lp : l ≠ p := fun z => by rw [z, upd_same] at nl; cases nl
  have nl1 : H1 l = none := by rw [upd_ne lp] at nl; exact nl
  have fl : F1 l = none := m1.now.sub.free nl1
  have sF : Same F1 F2 := fun y o ey => by show (match F1 y with | some o => some o | none => _) = _; rw [ey]
  have inF : ∀ y o, F2 y = some o → F1 y = some o ∨ H' y = some o ∧ ((∃ xs, o = .tup xs) ∨ y = l) := fun y o ey => by
    have ey : (match F1 y with | some o => some o | none => match H' y with | some (.tup xs) => some (.tup xs) | some (.lst xs) => if y = l then some (.lst xs) else none | _ => none) = some o := ey
    split at ey
    · rename_i q; cases ey; exact .inl q
    · refine .inr ?_
      split at ey
      · rename_i xs q2; cases ey; exact ⟨q2, .inl ⟨_, rfl⟩⟩
      · rename_i xs q2
        split at ey
        · rename_i z; cases ey; exact ⟨q2, .inr z⟩
        · cases ey
      · cases ey
  have tF : ∀ y xs, H' y = some (.tup xs) → F2 y = some (.tup xs) := fun y xs ey => by
    show (match F1 y with | some o => some o | none => match H' y with | some (.tup xs) => some (.tup xs) | some (.lst xs) => if y = l then some (.lst xs) else none | _ => none) = _
    cases q : F1 y with
    | some o => have := s1 _ _ (sub1 _ _ q); rw [ey] at this; cases this; rfl
    | none => simp only [ey]
  have m3 := m2.now.ext sF (H1 := H') (fun y o ey => ?_) sH (fun y o ey => ?_)
  · have rp : RepP K F1 kvs (ks.zip ts) := ⟨by rw [List.map_fst_zip (Nat.le_of_eq el)]; exact ek, by rw [List.map_snd_zip (Nat.le_of_eq el.symm)]; exact rk⟩
    have fl2 : F2 l = some (.lst (as.map V.ref)) := by
      show (match F1 l with | some o => some o | none => match H' l with | some (.tup xs) => some (.tup xs) | some (.lst xs) => if l = l then some (.lst xs) else none | _ => none) = _
      rw [fl, el']; simp
    exact c _ _ _ _ _ h1 ((m1.trans m2).trans m3) (RepT.mkLst ⟨l, _, rfl, fl2, put_pairsT sF rp pr tF fun y xs ey => tF y xs (sH _ _ ey)⟩)
  · rcases inF y o ey with z | ⟨z, _⟩
    · exact .inl (s1 _ _ (sub1 _ _ z))
    · exact .inl z
  · rcases inF y o ey with z | ⟨z, z1 | rfl⟩
    · exact .inl z
    · exact .inr (.inr z1)
    · exact .inr (.inl nl)
/-! cells that are of no more use -/
theorem Now.forget : ∀ {ot os : Os} {F H : Hp}, Now K I F H (os ++ ot) → ∃ F1, Nxt K I F H (os ++ ot) F1 H os
  | [], os, F, H, n => ⟨F, by rw [List.append_nil] at n ⊢; exact n.self⟩
  | c :: ot, os, F, H, n => by
    have hj : (os ++ c :: ot)[os.length]? = some (c.1, c.2) := by simp
    obtain ⟨o, ho, _⟩ := (n.wo.ok _ (List.mem_of_getElem? hj)).some
    obtain ⟨m, _⟩ := n.freeze hj ho
    have e : (os ++ c :: ot).eraseIdx os.length = os ++ ot := by rw [List.eraseIdx_append_of_length_le (Nat.le_refl _)]; simp
    rw [e] at m
    obtain ⟨F2, m2⟩ := Now.forget m.now
    exact ⟨F2, m.trans m2⟩
theorem wS_forget {ts : TS} {ot : Os} (h : wS K I ts Γ os P) : wS K I ts Γ (os ++ ot) P := fun σ F H D n e c => by
  obtain ⟨F1, m⟩ := n.forget
  exact h σ F1 H D m.now (e.mono m.up) (c.step m)
theorem wE_forget {ot : Os} (h : wE K I ta Γ os Φ) : wE K I ta Γ (os ++ ot) Φ := fun σ F H D n e c => by
  obtain ⟨F1, m⟩ := n.forget
  exact h σ F1 H D m.now (e.mono m.up) (c.step m)
/-! data seen through cells -/
variable (K) in
def DatAt (os : Os) (x : Tr) (d : Dat) : Prop := ∀ I F H v, Now K I F H os → RepT K F v x → Rep K H v d
variable (K) in
def DatsAt (os : Os) : List Tr → List Dat → Prop
  | [], ds => ds = []
  | t :: ts, ds => ∃ d r, ds = d :: r ∧ DatAt K os t d ∧ DatsAt os ts r
theorem DatAt.dat {d : Dat} : DatAt K os (.d d) d := fun I F H v n r => Rep.sub n.sub d r
theorem DatsAt.get {os : Os} : ∀ {ts : List Tr} {ds : List Dat} {I : Ini} {F H : Hp} {vs : List V}, DatsAt K os ts ds → Now K I F H os → RepTs K F vs ts → RepAll K H vs ds
  | [], _, _, _, _, _, h, _, r => by cases (show _ = [] from h); exact r
  | t :: ts, _, _, _, _, _, ⟨d, ds, e, h1, h2⟩, n, ⟨v, vs, e2, r1, r2⟩ => by
    subst e e2
    exact ⟨v, vs, rfl, h1 _ _ _ _ n r1, h2.get n r2⟩
theorem DatsAt.map {os : Os} : ∀ {ds : List Dat}, DatsAt K os (ds.map .d) ds
  | [] => rfl
  | d :: ds => ⟨d, ds, rfl, .dat, DatsAt.map⟩
theorem DatAt.lst {ds : List Dat} (hx : SeqL os x ts) (h : DatsAt K os ts ds) : DatAt K os x (.lst ds) := fun I F H v n r => by
  obtain ⟨a, xs, rfl, ea, rx⟩ := hx.at n r
  exact ⟨a, xs, rfl, ea, h.get n rx⟩
theorem DatAt.tup {ds : List Dat} (hx : asT x = some ts) (h : DatsAt K os ts ds) : DatAt K os x (.tup ds) := fun I F H v n r => by
  obtain ⟨a, xs, rfl, ea, _, rx⟩ := asT_at hx n r
  exact ⟨a, xs, rfl, ea, h.get n rx⟩
theorem wR_reprA {d : Dat} (hx : DatAt K os x d) (hf : Fine 100 sizeLine d) (h : Φ os (.d (.str d.py.shown))) : wR K I (rRepr K) [x] os Φ := fun F H vs Q n r c => by
  obtain ⟨v, _, rfl, rv, rfl⟩ := r
  exact ⟨v, d, rfl, hx _ _ _ _ n rv, hf, c os _ _ F H h n.self rfl⟩
end
/-! the same things, in another order: a new list -/
def tMixed : TF := fun ts os Φ _ => ∃ b x us, ts = [.v (.ref b), x] ∧ os = [(b, .bag)] ∧ asL x = some us ∧ us.length ≤ 1000 ∧ ∀ p ws, ws.Perm us → Φ [(b, .bag), (p, .lst ws)] (.v (.ref p))
theorem wR_mixed {K : PySem.W.Frag} {I : Ini} {ot : Os} {Φ : Os → Tr → Prop} {x : Tr} {us : List Tr} {b : Addr} (hl : I.lk = []) (hx : asL x = some us) (h1 : us.length ≤ 1000) (h : ∀ p ws, ws.Perm us → Φ ((b, .bag) :: (ot ++ [(p, .lst ws)])) (.v (.ref p))) :
    wR K I (fun vs H Q => spW K tMixed vs H Q E0) [.v (.ref b), x] ((b, .bag) :: ot) Φ :=
  wR_W1 hl ⟨b, x, us, rfl, rfl, hx, h1, fun p ws pe => h p ws pe⟩
theorem permD {ws : List Tr} {ds : List Dat} (h : ws.Perm (ds.map .d)) : ∃ es : List Dat, ws = es.map .d ∧ es.Perm ds := by
  have : ∀ {l m : List Tr}, l.Perm m → ∀ ks : List Dat, m = ks.map .d → ∃ ks' : List Dat, l = ks'.map .d ∧ ks'.Perm ks := by
    intro l m h
    induction h with
    | nil => intro ks e; cases ks with | nil => exact ⟨[], rfl, .refl _⟩ | cons _ _ => cases e
    | cons x _ ih =>
      intro ks e
      cases ks with
      | nil => cases e
      | cons k ks =>
        injection e with e1 e2
        obtain ⟨ks', e3, p⟩ := ih ks e2
        exact ⟨k :: ks', by rw [e1, e3]; rfl, p.cons k⟩
    | swap x y l =>
      intro ks e
      match ks, e with
      | a :: b :: ks, e =>
        injection e with e1 e2
        injection e2 with e2 e3
        exact ⟨b :: a :: ks, by rw [e1, e2, e3]; rfl, .swap _ _ _⟩
    | trans _ _ ih1 ih2 =>
      intro ks e
      obtain ⟨k1, e1, p1⟩ := ih2 ks e
      obtain ⟨k2, e2, p2⟩ := ih1 k1 e1
      exact ⟨k2, e2, p2.trans p1⟩
  exact this h ds rfl
end Wp

set_option Elab.async false
set_option linter.all false
set_option maxRecDepth 100000
set_option maxHeartbeats 4000000
/-! Comprehensions over rows that are told by a family; pairs; keys. -/
namespace Wp
open PySem PySem.Spec PyProof.Rows L2 G D L C Lt
section
variable {K : PySem.W.Frag} {I : Ini} {Γ : Gm} {os : Os} {Φ : Os → Tr → Prop} {F H F1 H1 : Hp} {x y : Tr} {ts us : List Tr}
variable {t u ta tb tc te td ty tv : TE} {tt tu : TT} {tr : TA}
theorem lc_filtG {κ : Type} {its : List Tr} {g : TG} {vs : List Nat} {Φ' : Os → List Tr → Prop} (ks : List κ) (gf : κ → Tr) (q : κ → Bool) (f : κ → Tr) (ei : its = ks.map gf) (hz : ks.length < sizeLine)
    (hs : ∀ k ∈ ks, wLG K I vs g (gf k) (wipeG Γ vs) os fun Γ2 => wT K I tt Γ2 os fun os3 b => os3 = os ∧ b = q k ∧ (b = true → wE K I te Γ2 os fun os4 d => os4 = os ∧ d = f k)) (hd : Φ' os ((ks.filter q).map f)) : LcOk K I its g tt te vs Γ os Φ' := by
  subst ei
  refine ⟨by rw [List.length_map]; exact hz, fun i os2 acc => os2 = os ∧ acc = ((ks.take i).filter q).map f, ⟨rfl, rfl⟩, fun i t os2 acc ht ⟨e1, e2⟩ => ?_, fun os2 acc ⟨e1, e2⟩ => by subst e1 e2; rw [List.length_map, List.take_length]; exact hd⟩
  subst e1 e2
  rw [List.getElem?_map] at ht
  cases hk : ks[i]? with
  | none => rw [hk] at ht; cases ht
  | some k =>
    rw [hk] at ht
    cases ht
    refine fun v σ F H Q n e r c => hs k (List.mem_of_getElem? hk) v σ F H Q n e r fun Γ' σ' p => c Γ' σ' ?_
    refine fun σ2 F2 H2 Q2 n2 e2 c2 => p σ2 F2 H2 Q2 n2 e2 fun os3 b F3 H3 ⟨a1, a2, a3⟩ m3 => c2 os3 b F3 H3 ⟨fun hb => ?_, fun hb => ⟨a1, ?_⟩⟩ m3
    · subst a1
      refine (a3 hb).weak fun os4 d ⟨b1, b2⟩ => ⟨b1, ?_⟩
      rw [b2, List.take_add_one, hk]
      simp [← a2, hb]
    · rw [List.take_add_one, hk]
      simp [← a2, hb]
theorem lc_mapG {κ : Type} {its : List Tr} {g : TG} {vs : List Nat} {Φ' : Os → List Tr → Prop} (ks : List κ) (gf : κ → Tr) (f : κ → Tr) (ei : its = ks.map gf) (hz : ks.length < sizeLine)
    (hs : ∀ k ∈ ks, wLG K I vs g (gf k) (wipeG Γ vs) os fun Γ2 => wE K I te Γ2 os fun os4 d => os4 = os ∧ d = f k) (hd : Φ' os (ks.map f)) : LcOk K I its g tYes te vs Γ os Φ' :=
  lc_filtG ks gf (fun _ => true) f ei hz (fun k hk v σ F H Q n e r c => hs k hk v σ F H Q n e r fun Γ' σ' p => c Γ' σ' (wT_yes ⟨rfl, rfl, fun _ => p⟩)) (by
    rw [List.filter_eq_self.mpr (fun _ _ => rfl)]; exact hd)
end
theorem putP_new {κ : Type} [DecidableEq κ] {ps : List (κ × Tr)} {k : κ} {t : Tr} (h : k ∉ ps.map (·.1)) : putP ps k t = ps ++ [(k, t)] := by
  unfold putP
  rw [if_neg]
  intro z
  obtain ⟨p, hp, e⟩ := List.any_eq_true.mp z
  exact h (List.mem_map.mpr ⟨p, hp, of_decide_eq_true e⟩)
theorem mergeP_nd {κ : Type} [DecidableEq κ] : ∀ {more ps : List (κ × Tr)}, ((ps ++ more).map (·.1)).Nodup → mergeP ps more = ps ++ more
  | [], ps, _ => by rw [List.append_nil]; rfl
  | p :: more, ps, h => by
    show mergeP (putP ps p.1 p.2) more = _
    have nk : p.1 ∉ ps.map (·.1) := fun z => by
      rw [List.map_append, List.map_cons] at h
      exact (List.nodup_append.mp h).2.2 _ z _ List.mem_cons_self rfl
    rw [putP_new nk, mergeP_nd (by rw [List.append_assoc]; exact h), List.append_assoc]
    rfl
theorem mkTup_rev (ds : List Dat) : mkTup (ds.map .d).reverse = .d (.tup ds.reverse) := by rw [← List.map_reverse, mkTup_d]
theorem asPairT_d (k : List Key) (e : Dat) : asPairT (.d (.tup [S.keyDat k, e])) = some (k, .d e) := by
  unfold asPairT
  show (match keyT (.d (S.keyDat k)) with | some k => some (k, Tr.d e) | none => none) = _
  rw [keyT_key]
theorem asPairsT_map {α : Type} (kf : α → List Key) (ef : α → Dat) : ∀ xs : List α, asPairsT (xs.map fun a => .d (.tup [S.keyDat (kf a), ef a])) = some (xs.map fun a => (kf a, .d (ef a)))
  | [] => rfl
  | a :: xs => by
    show (match asPairT _, asPairsT (xs.map _) with | some p, some r => some (p :: r) | _, _ => none) = _
    rw [asPairT_d, asPairsT_map kf ef xs]
    rfl
theorem getK_map {α κ : Type} [DecidableEq κ] (kf : α → κ) (ef : α → Tr) : ∀ {xs : List α} {a : α}, a ∈ xs → (xs.map kf).Nodup → getK (xs.map kf) (xs.map ef) (kf a) = some (ef a)
  | x :: xs, a, h, nd => by
    rw [List.map_cons, List.nodup_cons] at nd
    rw [List.map_cons, List.map_cons]
    unfold getK
    rcases List.mem_cons.mp h with rfl | h
    · rw [if_pos rfl]
    · rw [if_neg fun z => nd.1 (by rw [z]; exact List.mem_map_of_mem h)]
      exact getK_map kf ef h nd.2
theorem getK_none {κ : Type} [DecidableEq κ] : ∀ {ks : List κ} {ts : List Tr} {q : κ}, q ∉ ks → getK ks ts q = none
  | [], _, _, _ => by unfold getK; rfl
  | k :: ks, [], q, _ => by unfold getK; rfl
  | k :: ks, t :: ts, q, h => by
    unfold getK
    rw [List.mem_cons, not_or] at h
    rw [if_neg fun z => h.1 z.symm]
    exact getK_none h.2
theorem getK_some {κ : Type} [DecidableEq κ] : ∀ {ks : List κ} {ts : List Tr} {q : κ}, ks.length = ts.length → q ∈ ks → ∃ t, getK ks ts q = some t
  | k :: ks, [], q, e, _ => by cases e
  | k :: ks, t :: ts, q, e, h => by
    unfold getK
    by_cases z : k = q
    · exact ⟨t, by rw [if_pos z]⟩
    · rw [if_neg z]
      exact getK_some (Nat.succ.inj e) ((List.mem_cons.mp h).resolve_left fun w => z w.symm)
/-! == of keys, of rows of texts -/
def key1 : Key → Dat
  | .inl i => .int i
  | .inr x => .str x
theorem eqv_keys : ∀ k q : List Key, PyData.eqvAll (pyAll (k.map key1)) (pyAll (q.map key1)) = decide (k = q)
  | [], [] => rfl
  | [], _ :: _ => rfl
  | _ :: _, [] => rfl
  | a :: k, b :: q => by
    show (PyData.eqv (key1 a).py (key1 b).py && PyData.eqvAll (pyAll (k.map key1)) (pyAll (q.map key1))) = _
    rw [eqv_keys k q]
    have : PyData.eqv (key1 a).py (key1 b).py = decide (a = b) := by
      cases a <;> cases b
      · rename_i i j
        show (i == j) = _
        rw [Bool.eq_iff_iff]; simp
      · rfl
      · rfl
      · rename_i i j
        show (i == j) = _
        rw [Bool.eq_iff_iff]; simp
    rw [this, Bool.eq_iff_iff]
    simp
theorem keyDat_eq (k : List Key) : S.keyDat k = .tup (k.map key1) := rfl
theorem eqv_keyDat (k q : List Key) : PyData.eqv (S.keyDat k).py (S.keyDat q).py = decide (k = q) := eqv_keys k q
theorem eqv_tstrs (us ws : List Str) : PyData.eqv (Dat.tup (us.map .str)).py (Dat.tup (ws.map .str)).py = decide (us = ws) := by
  have e : ∀ xs : List Str, xs.map Dat.str = (xs.map Sum.inr).map key1 := fun xs => by rw [List.map_map]; rfl
  show PyData.eqvAll (pyAll (us.map .str)) (pyAll (ws.map .str)) = _
  rw [e, e, eqv_keys, Bool.eq_iff_iff]
  simp only [decide_eq_true_eq]
  exact ⟨fun h => (List.map_inj_right (fun _ _ z => Sum.inr.inj z)).mp h, fun h => by rw [h]⟩
/-- fit for ==, as a reckoning -/
def shpB (d : Dat) : Bool := d.pure && SeqAt.shaped d.py
theorem shp_of {d : Dat} (h : shpB d = true) : Shp d := by
  unfold shpB at h
  rw [Bool.and_eq_true] at h
  exact ⟨h.1, h.2⟩
/-- a row of what stands by itself -/
def flat1 : Dat → Bool
  | .non => true
  | .bl _ => true
  | .int _ => true
  | .str s => PyData.strOk s
  | _ => false
theorem shp_row {ds : List Dat} (h : ∀ d ∈ ds, flat1 d = true) : Shp (.tup ds) ∧ Shp (.lst ds) := by
  have a : pureAll ds = true ∧ PyData.canLayAll0 (pyAll ds) = true ∧ PyData.depthAll (pyAll ds) ≤ 1 := by
    induction ds with
    | nil => exact ⟨rfl, rfl, by simp [pyAll, PyData.depthAll]⟩
    | cons d ds ih =>
      obtain ⟨h1, h2, h3⟩ := ih fun e he => h e (List.mem_cons_of_mem _ he)
      have hd := h d List.mem_cons_self
      have : d.pure = true ∧ d.py.canLay0 = true ∧ d.py.depth ≤ 1 := by
        cases d with
        | non => exact ⟨rfl, rfl, by simp [Dat.py, PyData.depth]⟩
        | bl _ => exact ⟨rfl, rfl, by simp [Dat.py, PyData.depth]⟩
        | int _ => exact ⟨rfl, rfl, by simp [Dat.py, PyData.depth]⟩
        | str s => exact ⟨rfl, by simpa [Dat.py, PyData.canLay0, flat1] using hd, by simp [Dat.py, PyData.depth]⟩
        | _ => cases hd
      refine ⟨?_, ?_, ?_⟩
      · show (d.pure && pureAll ds) = true
        rw [this.1, h1]; rfl
      · show (d.py.canLay0 && PyData.canLayAll0 (pyAll ds)) = true
        rw [this.2.1, h2]; rfl
      · simp only [pyAll, PyData.depthAll]
        have := this.2.2
        omega
  obtain ⟨h1, h2, h3⟩ := a
  have s : SeqAt.shaped (Dat.tup ds).py = true := by
    unfold SeqAt.shaped
    simp only [Dat.py, PyData.canLay0, PyData.depth, Bool.and_eq_true, decide_eq_true_eq]
    exact ⟨h2, by omega⟩
  exact ⟨⟨h1, s⟩, ⟨h1, by
    unfold SeqAt.shaped
    simp only [Dat.py, PyData.canLay0, PyData.depth, Bool.and_eq_true, decide_eq_true_eq]
    exact ⟨h2, by omega⟩⟩⟩
/-! what sorting tells apart -/
section
open PySem.W (keyToks keyToksAll alike alikeAll str_of_cps)
mutual
theorem toks_inj : ∀ {x y : PyData} {l m : List (Int ⊕ List Nat)}, alike x y = true → keyToks x ++ l = keyToks y ++ m → x = y ∧ l = m
  | .none, y, l, m, a, h => by
    cases y with
    | none => exact ⟨rfl, h⟩
    | _ => simp [alike] at a
  | .bool b, y, l, m, a, h => by
    cases y with
    | bool c =>
      have h : Sum.inl (if b = true then (1 : Int) else 0) :: l = Sum.inl (if c = true then (1 : Int) else 0) :: m := h
      injection h with h1 h2
      refine ⟨?_, h2⟩
      cases b <;> cases c <;> simp at h1 <;> rfl
    | _ => simp [alike] at a
  | .int i, y, l, m, a, h => by
    cases y with
    | int j =>
      have h : Sum.inl i :: l = Sum.inl j :: m := h
      injection h with h1 h2
      injection h1 with h1
      exact ⟨by rw [h1], h2⟩
    | _ => simp [alike] at a
  | .str i, y, l, m, a, h => by
    cases y with
    | str j =>
      have h : Sum.inr i.cps.toList :: l = Sum.inr j.cps.toList :: m := h
      injection h with h1 h2
      injection h1 with h1
      exact ⟨by rw [str_of_cps h1], h2⟩
    | _ => simp [alike] at a
  | .list xs, y, l, m, a, h => by
    cases y with
    | list ys =>
      have a : alikeAll xs ys = true := by simpa [alike] using a
      have h : keyToksAll xs ++ l = keyToksAll ys ++ m := h
      obtain ⟨e, r⟩ := toks_injAll a h
      exact ⟨by rw [e], r⟩
    | _ => simp [alike] at a
  | .tuple xs, y, l, m, a, h => by
    cases y with
    | tuple ys =>
      have a : alikeAll xs ys = true := by simpa [alike] using a
      have h : keyToksAll xs ++ l = keyToksAll ys ++ m := h
      obtain ⟨e, r⟩ := toks_injAll a h
      exact ⟨by rw [e], r⟩
    | _ => simp [alike] at a
  | .dict _, y, l, m, a, h => by simp [alike] at a
theorem toks_injAll : ∀ {xs ys : List PyData} {l m : List (Int ⊕ List Nat)}, alikeAll xs ys = true → keyToksAll xs ++ l = keyToksAll ys ++ m → xs = ys ∧ l = m
  | [], [], l, m, _, h => by
    have h : Sum.inl 0 :: l = Sum.inl 0 :: m := h
    injection h with _ h2
    exact ⟨rfl, h2⟩
  | [], y :: ys, l, m, _, h => by
    have h : (Sum.inl 0 : Int ⊕ List Nat) :: l = Sum.inl 1 :: ((keyToks y ++ keyToksAll ys) ++ m) := h
    injection h with h1 _
    injection h1 with h1
    cases h1
  | x :: xs, [], l, m, _, h => by
    have h : (Sum.inl 1 : Int ⊕ List Nat) :: ((keyToks x ++ keyToksAll xs) ++ l) = Sum.inl 0 :: m := h
    injection h with h1 _
    injection h1 with h1
    cases h1
  | x :: xs, y :: ys, l, m, a, h => by
    have a : (alike x y && alikeAll xs ys) = true := by simpa [alikeAll] using a
    rw [Bool.and_eq_true] at a
    have h : (Sum.inl 1 : Int ⊕ List Nat) :: ((keyToks x ++ keyToksAll xs) ++ l) = Sum.inl 1 :: ((keyToks y ++ keyToksAll ys) ++ m) := h
    injection h with _ h
    rw [List.append_assoc, List.append_assoc] at h
    obtain ⟨e1, h⟩ := toks_inj a.1 h
    obtain ⟨e2, h⟩ := toks_injAll a.2 h
    exact ⟨by rw [e1, e2], h⟩
end
/-- rows of alike data, in another order: sorted, they are the same -/
theorem sortD_alike {ds es : List Dat} (p : ds.Perm es) (al : ∀ d ∈ ds, ∀ e ∈ ds, alike d.py e.py = true) (inj : ∀ d ∈ ds, ∀ e ∈ ds, d.py = e.py → d = e) : S.sortD ds = S.sortD es :=
  S.sortD_same p fun d hd e he h => inj d hd e he (toks_inj (l := []) (m := []) (al d hd e he) (by rw [List.append_nil, List.append_nil]; exact h)).1
end
end Wp
namespace L2
open PySem PySem.Spec PyProof.Rows
section
variable {X : Cx} {K : PySem.W.Frag}
theorem op_neDK (h : X.K = K) (hu : X.A.units + 64 < cLine) : OpR X (compareOp .NotEq) (rNeD K) := by subst h; exact op_neD hu
theorem op_eqDK (h : X.K = K) (hu : X.A.units + 64 < cLine) : OpR X (compareOp .Eq) (rEqD K) := by subst h; exact op_eqD hu
theorem op_catTK (h : X.K = K) : OpR X (binaryOp .Add) (rCatT K) := by subst h; exact op_catT
theorem op_catAK (h : X.K = K) : OpR X (binaryOp .Add) (rCatA K) := by subst h; exact op_catA
end
end L2
namespace Ex
open PySem PySem.Spec PyProof.Rows L2 G D L S C Sx Kx
section
variable {X : Cx} {K : PySem.W.Frag} {k : Nat} {C : Addr} {ps : List Str} {sp : Sp}
theorem op_eqOK (e : X.K = K) (M : EqM X.prog X.w K X.mg X.base k C ps sp) (hc : Calm X.A) (hr : Room k X.A) (hps : ps.length = 2) : OpR X (compareOp .Eq) (rEqO K C sp) := by subst e; exact op_eqO M hc hr hps
end
end Ex

set_option Elab.async false
set_option linter.all false
set_option maxRecDepth 100000
set_option maxHeartbeats 8000000
namespace K
open PySem PySem.Spec PyProof.Rows L2 G D L S C Sx Kx Ex Lt Qe De Er
open Fz hiding Fr
open C8 (pss_cut tCut)
open PySem.W (dataLt alike AllAlike Sortable)
open Wp (Tr RepT RepTs spW TF Wo Stp Os Now Nxt)
local macro_rules | `(tactic| walk_at "w1") => `(tactic| first
  | (with_reducible first
    | refine Wp.wS_seq ?_ | refine Wp.wS_set ?_ | refine Wp.wS_ret ?_ | refine Wp.wS_retN ?_ | refine Wp.wS_drop ?_ | refine Wp.wS_if ?_ | refine Wp.wS_next ?_ | refine Wp.wS_cont ?_ | refine Wp.wS_break ?_ | refine Wp.wS_par ⟨_, _, rfl, ?_⟩
    | refine Wp.wE_itemsT (by assumption) ?_ | refine Wp.wE_op ?_ | refine Wp.wE_un ?_ | refine Wp.wA_nil ?_ | refine Wp.wA_cons ?_ | refine Wp.wA_mix ?_ | refine Wp.wE_cb ?_ | refine Wp.wE_call ?_ | refine Wp.wE_bm0 ?_ | refine Wp.wE_bm ?_
    | refine Wp.wT_test ?_ | refine Wp.wT_b ?_ | refine Wp.wT_not ?_ | refine Wp.wT_and ?_ | refine Wp.wT_or ?_ | refine Wp.wT_yes ?_ | refine Wp.wE_not ?_ | refine Wp.wE_and ?_ | refine Wp.wE_or ?_ | refine Wp.wE_if ?_ | refine Wp.wE_chain ?_
    | refine Wp.wE_sl ?_ | refine Wp.wP_none ?_ | refine Wp.wP_some ?_
    | refine Wp.wE_int ?_ | refine Wp.wE_str ?_ | refine Wp.wE_bl ?_ | refine Wp.wE_non ?_ | refine Wp.wE_ty ?_ | refine Wp.wE_ref ?_ | refine Wp.wE_lit ?_
    | refine Wp.wE_items ?_ | refine Wp.wE_revT ?_
    | refine Wp.wE_tup ?_ | refine Wp.wE_dget ?_ | refine Wp.wS_asg ?_ | refine Wp.wG_set ?_ | refine Wp.wS_for ?_ | refine Wp.wI_list ?_ | refine Wp.wI_tup ?_ | refine Wp.wI_rng1 ?_ | refine Wp.wI_rng2 ?_ | refine Wp.wE_fld ?_ | refine Wp.wE_meth ?_ | refine Wp.wE_prop ?_
    | refine Wp.wR_take (by assumption) (by decide) (by decide) ?_ | refine Wp.wR_draw (by assumption) ?_
    | refine Wp.wG_name ?_ | refine Wp.wGs_nil ?_ | refine Wp.wGs_cons ?_ | refine Wp.wLG_name (by decide) ?_)
  | refine Wp.wE_var rfl ?_
  | refine ⟨_, rfl, ?_⟩
  | refine ⟨Wp.len_ok rfl, ?_⟩
  | dsimp only
  | dsimp only [Wp.wipeG, List.set_cons_zero, List.set_cons_succ, List.cons_append, List.nil_append, List.map_cons, List.map_nil, Wp.mkTup0, Wp.mkTup1, Wp.mkTup2, Wp.mkTup3, Wp.mkTup4, Wp.mkTup5, Wp.mkTup6, Wp.mkLst0, Wp.mkLst1, Wp.mkLst2, Wp.mkLst3, Wp.mkLst4, Wp.mkLst5, Wp.mkLst6, Wp.mkLst7, Wp.mkLst8, Wp.mkLst9, Wp.mkLst10, Wp.mkLst11, Wp.mkLst12, Wp.mkLst13, Wp.mkLst14, Wp.mkLst15, Wp.mkLst16, List.take_succ_cons, List.take_zero, List.drop_succ_cons, List.drop_zero, List.take_nil, List.drop_nil]
  | rw [Wp.mkTup_d] | rw [Wp.mkLst_d] | rw [Wp.mkLst_cut] | rw [Wp.mkLst_app] | rw [Wp.mkLst_rep] | rw [Wp.mkTup_rev] | rw [List.append_nil]
  | refine Wp.wR_listL (Or.inl rfl) ?_ | refine Wp.wO_ixL (Or.inl rfl) rfl ?_ | refine Wp.wO_ixL (Wp.SeqL.own 1 rfl) rfl ?_ | refine Wp.wO_ixL (Wp.SeqL.own 2 rfl) rfl ?_ | refine Wp.wO_ixT rfl rfl ?_ | refine Wp.wO_ixST rfl rfl ?_
  | refine ⟨1, _, _, _, _, rfl, rfl, rfl, rfl, ?_⟩ | refine ⟨2, _, _, _, _, rfl, rfl, rfl, rfl, ?_⟩
  | refine Wp.wO_eqI ?_ | refine Wp.wO_neI ?_ | refine Wp.wO_eqS ?_ | refine Wp.wO_neS ?_
  | refine Wp.wO_intI rfl ?_ | refine Wp.wO_intB rfl ?_
  | refine Wp.wR_int ?_ | refine Wp.wR_intB ?_
  | refine Wp.wO_isB ?_ | refine Wp.wO_notB ?_ | refine Wp.wO_isN ?_ | refine Wp.wO_notN ?_)
local macro_rules | `(tactic| walk_at "w0") => `(tactic| (dsimp only [cxOf, Cx.nox, Cx.wish]; simp only [List.map_cons, List.map_nil, List.length_cons, List.length_nil, Nat.reduceAdd, Nat.reduceSub, List.replicate_succ, List.replicate_zero, List.cons_append, List.nil_append]))
/-! gates told apart -/
theorem rl_inj {r q : Rl} (h : r.dat.py = q.dat.py) : r = q := (eqv_rule r q).mp (by rw [h]; exact (eqv_rule q q).mpr rfl)
theorem rules_sorted {rs rs' : List Rl} (p : rs.Perm rs') : sortD (rs.map Rl.dat) = sortD (rs'.map Rl.dat) := by
  refine Wp.sortD_alike (p.map _) (fun d hd e he => ?_) (fun d hd e he h => ?_)
  · exact (ord_rules rs).al _ (List.mem_map_of_mem hd) _ (List.mem_map_of_mem he)
  · obtain ⟨r, _, rfl⟩ := List.mem_map.mp hd
    obtain ⟨q, _, rfl⟩ := List.mem_map.mp he
    rw [rl_inj h]
theorem atD_mem {k : List Key} {d : Dat} : ∀ {rs : List Rl}, atD (rs.map Rl.key) (rs.map Rl.dat) k = some d → ∃ r ∈ rs, r.key = k ∧ r.dat = d
  | [], h => by simp [atD] at h
  | r :: rs, h => by
    rw [List.map_cons, List.map_cons] at h
    unfold atD at h
    split at h
    · rename_i e
      cases h
      exact ⟨r, List.mem_cons_self, e, rfl⟩
    · obtain ⟨q, hq, e⟩ := atD_mem h
      exact ⟨q, List.mem_cons_of_mem _ hq, e⟩
theorem atD_self : ∀ {rs : List Rl} {r : Rl}, r ∈ rs → (rs.map Rl.key).Nodup → atD (rs.map Rl.key) (rs.map Rl.dat) r.key = some r.dat
  | q :: rs, r, h, nd => by
    rw [List.map_cons, List.nodup_cons] at nd
    rw [List.map_cons, List.map_cons]
    unfold atD
    rcases List.mem_cons.mp h with rfl | h
    · rw [if_pos rfl]
    · rw [if_neg fun z => nd.1 (by rw [z]; exact List.mem_map_of_mem h)]
      exact atD_self h nd.2
theorem like_iff {ls : List Rl} (nd : (ls.map Rl.key).Nodup) : ∀ rs : List Rl, likeB (ls.map Rl.key) (ls.map Rl.dat) (rs.map Rl.key) (rs.map Rl.dat) = true ↔ ∀ r ∈ rs, r ∈ ls
  | [] => by simp [likeB]
  | r :: rs => by
    rw [List.map_cons, List.map_cons]
    unfold likeB
    constructor
    · intro h
      split at h
      · cases h
      · rename_i e he
        rw [Bool.and_eq_true] at h
        obtain ⟨q, hq, ek, rfl⟩ := atD_mem he
        have : r = q := (eqv_rule r q).mp h.1
        subst this
        intro x hx
        rcases List.mem_cons.mp hx with rfl | hx
        · exact hq
        · exact (like_iff nd rs).mp h.2 x hx
    · intro h
      rw [atD_self (h r List.mem_cons_self) nd]
      show (PyData.eqv r.dat.py r.dat.py && _) = true
      rw [(eqv_rule r r).mpr rfl, (like_iff nd rs).mpr fun x hx => h x (List.mem_cons_of_mem _ hx)]
      rfl
theorem nd_of_keys {rs : List Rl} (nd : (rs.map Rl.key).Nodup) : rs.Nodup := by
  induction rs with
  | nil => exact .nil
  | cons r rs ih =>
    rw [List.map_cons, List.nodup_cons] at nd
    exact List.nodup_cons.mpr ⟨fun z => nd.1 (List.mem_map_of_mem z), ih nd.2⟩
theorem sub_perm {α : Type} : ∀ {xs ys : List α}, xs.Nodup → xs.length = ys.length → (∀ x ∈ xs, x ∈ ys) → xs.Perm ys
  | [], ys, _, l, _ => by rw [List.length_eq_zero_iff.mp l.symm]
  | x :: xs, ys, n, l, s => by
    obtain ⟨u, v, rfl⟩ := List.append_of_mem (s x List.mem_cons_self)
    have nd := List.nodup_cons.mp n
    refine (List.Perm.cons x (sub_perm (ys := u ++ v) nd.2 (by simp at l ⊢; omega) fun y hy => ?_)).trans List.perm_middle.symm
    have := s y (List.mem_cons_of_mem _ hy)
    simp only [List.mem_append, List.mem_cons] at this ⊢
    rcases this with h | rfl | h
    · exact .inl h
    · exact absurd hy nd.1
    · exact .inr h
theorem same_iff {n n' : Int} {ds cs ds' cs' : List Str} {rs rs' : List Rl} (nd : (rs.map Rl.key).Nodup) (nd' : (rs'.map Rl.key).Nodup) :
    sameG n ds cs rs n' ds' cs' rs' = true ↔ n = n' ∧ sortS ds = sortS ds' ∧ sortS cs = sortS cs' ∧ rs.Perm rs' := by
  unfold sameG
  simp only [Bool.and_eq_true, decide_eq_true_eq, beq_iff_eq]
  refine and_congr_right fun _ => and_congr_right fun _ => and_congr_right fun _ => ⟨fun ⟨l, h⟩ => sub_perm (nd_of_keys nd) l ((like_iff nd' rs).mp h), fun p => ⟨p.length_eq, (like_iff nd' rs).mpr fun r hr => p.mem_iff.mp hr⟩⟩
/-- some part is another -/
def Dif (n : Int) (ds cs : List Str) (rs : List Rl) (n' : Int) (ds' cs' : List Str) (rs' : List Rl) : Prop := ¬ (n = n' ∧ sortS ds = sortS ds' ∧ sortS cs = sortS cs' ∧ rs.Perm rs')
theorem sortS_perm {ds us : List Str} (p : us.Perm ds) : sortS us = sortS ds := by
  unfold sortS
  rw [sort_strs_same p]
theorem sortS_mem {ds us : List Str} (h : sortS ds = sortS us) : ds.Perm us := by
  obtain ⟨a, _, pa, ea⟩ := sortS_map ds
  obtain ⟨b, _, pb, eb⟩ := sortS_map us
  rw [ea, eb] at h
  subst h
  exact pa.symm.trans pb
theorem Dif.perm {n n' : Int} {ds cs ds' cs' us ws us' ws' : List Str} {rs rs' qs qs' : List Rl} (h : Dif n ds cs rs n' ds' cs' rs') (p1 : us.Perm ds) (p2 : ws.Perm cs) (p3 : qs.Perm rs) (q1 : us'.Perm ds') (q2 : ws'.Perm cs') (q3 : qs'.Perm rs') : Dif n us ws qs n' us' ws' qs' := by
  rintro ⟨a, b, c, d⟩
  exact h ⟨a, by rw [← sortS_perm p1, ← sortS_perm q1, b], by rw [← sortS_perm p2, ← sortS_perm q2, c], p3.symm.trans (d.trans q3)⟩
/-! the law's own _law_mixed, with a new list of one's own -/
section
variable {P : Program} {w : World} {K : PySem.W.Frag} {mg : Str → Option Value} {base : Heap}
theorem ok_mixedO {f : Addr} {fd : FuncData} (F : Fun K "_law_mixed" "_law_mixed" s_law_mixed f fd) (T : Bl mg)
    (D_law_take : Def P w K mg base 2 "_law_take" ["bag", "many"] (spW K Wp.tTake)) : Fn P w K mg base CX0 3 f fd ["bag", "things"] (spW K Wp.tMixed) := by
  refine Wp.fn_w F sc_law_mixed (fun ts os Φ Ψ ⟨b, x, us, e, _⟩ => by rw [e]; rfl) fun cdv A outer s H E hc hr => ?_
  have hu := hu_of hr
  have hu64 := hr.units
  refine ⟨_, (pss_cons (ps_set (i := 2) sc_law_mixed.nd rfl (Or.inl rfl) (pe_lst pa_nil))
 (pss_cons (ps_for PassesOwn.never rfl (pi_list (pv 1)) (pg_name (i := 3) sc_law_mixed.nd rfl (Or.inl rfl))
  (pss_one (ps_expr (pe_bm PySem.F.plainAttrs_list PySem.F.slot_list_insert PySem.F.type_list_insert mt_insert (pv 2) (pa_cons (pe_def D_law_take hc (hr.mono (by decide)) (pa_cons (pv 0) (pa_cons (pe_op op_add (pe_callB call_len_seq (by rfl) T.lenN (by decide +kernel) (pa_cons (pv 2) pa_nil)) pe_int) pa_nil))) (pa_cons (pv 3) pa_nil))))))
 (pss_one (ps_ret (pv 2))))), ?_⟩
  rintro I ts os Φ Ψ hl ⟨b, x, us, rfl, rfl, hx, lu, k⟩
  walk_at "w0"
  repeat' walk_at "w1"
  refine Wp.wE_lstO ?_
  repeat' walk_at "w1"
  intro p
  repeat' walk_at "w1"
  refine ⟨_, hx, fun i Γ os => ∃ (o3 : Option Tr) (ws : List Tr), Γ = [some (.v (.ref b)), some x, some (.v (.ref p)), o3] ∧ os = [(b, .bag), (p, .lst ws)] ∧ ws.Perm (us.take i), ⟨none, [], rfl, rfl, by rw [List.take_zero]⟩, ?_, ?_⟩
  · rintro i t Γ os ht ⟨o3, ws, rfl, rfl, pe⟩
    have lw : ws.length ≤ 1000 := by rw [pe.length_eq]; exact Nat.le_trans (List.length_take_le _ _) (by have := (List.getElem?_eq_some_iff.mp ht).1; omega)
    repeat' walk_at "w1"
    refine ⟨Wp.wY_own (j := 1) rfl, ?_⟩
    repeat' walk_at "w1"
    refine Wp.wR_lenL (Wp.SeqL.own 1 rfl) ?_
    repeat' walk_at "w1"
    refine Wp.wR_take hl (by omega) (by omega) fun z z0 z1 => ?_
    repeat' walk_at "w1"
    refine Wp.wM_insert (j := 1) rfl (Nat.lt_of_le_of_lt lw (by decide)) z0 (by omega) ?_
    refine ⟨_, _, rfl, rfl, (set_perm (by omega)).trans ?_⟩
    rw [List.take_add_one, ht]
    exact pe.append_right _
  · rintro Γ os ⟨o3, ws, rfl, rfl, pe⟩
    repeat' walk_at "w1"
    rw [List.take_length] at pe
    exact k p ws pe
end
end K

set_option Elab.async false
set_option linter.all false
set_option maxRecDepth 100000
set_option maxHeartbeats 8000000
namespace K
open PySem PySem.Spec PyProof.Rows L2 G D L S C Sx Kx Ex Lt Qe De Er
open Fz hiding Fr
open C8 (pss_cut tCut)
open PySem.W (dataLt alike AllAlike Sortable)
open Wp (Tr RepT RepTs spW TF Wo Stp Os Now Nxt)
local macro_rules | `(tactic| walk_at "w1") => `(tactic| first
  | (with_reducible first
    | refine Wp.wS_seq ?_ | refine Wp.wS_set ?_ | refine Wp.wS_ret ?_ | refine Wp.wS_retN ?_ | refine Wp.wS_drop ?_ | refine Wp.wS_if ?_ | refine Wp.wS_next ?_ | refine Wp.wS_cont ?_ | refine Wp.wS_break ?_ | refine Wp.wS_par ⟨_, _, rfl, ?_⟩
    | refine Wp.wE_itemsT (by assumption) ?_ | refine Wp.wE_op ?_ | refine Wp.wE_un ?_ | refine Wp.wA_nil ?_ | refine Wp.wA_cons ?_ | refine Wp.wA_mix ?_ | refine Wp.wE_cb ?_ | refine Wp.wE_call ?_ | refine Wp.wE_bm0 ?_ | refine Wp.wE_bm ?_
    | refine Wp.wT_test ?_ | refine Wp.wT_b ?_ | refine Wp.wT_not ?_ | refine Wp.wT_and ?_ | refine Wp.wT_or ?_ | refine Wp.wT_yes ?_ | refine Wp.wE_not ?_ | refine Wp.wE_and ?_ | refine Wp.wE_or ?_ | refine Wp.wE_if ?_ | refine Wp.wE_chain ?_
    | refine Wp.wE_sl ?_ | refine Wp.wP_none ?_ | refine Wp.wP_some ?_
    | refine Wp.wE_int ?_ | refine Wp.wE_str ?_ | refine Wp.wE_bl ?_ | refine Wp.wE_non ?_ | refine Wp.wE_ty ?_ | refine Wp.wE_ref ?_ | refine Wp.wE_lit ?_
    | refine Wp.wE_items ?_ | refine Wp.wE_revT ?_
    | refine Wp.wE_tup ?_ | refine Wp.wE_dget ?_ | refine Wp.wS_asg ?_ | refine Wp.wG_set ?_ | refine Wp.wS_for ?_ | refine Wp.wI_list ?_ | refine Wp.wI_tup ?_ | refine Wp.wI_rng1 ?_ | refine Wp.wI_rng2 ?_ | refine Wp.wE_fld ?_ | refine Wp.wE_meth ?_ | refine Wp.wE_prop ?_
    | refine Wp.wR_take (by assumption) (by decide) (by decide) ?_ | refine Wp.wR_draw (by assumption) ?_
    | refine Wp.wG_name ?_ | refine Wp.wGs_nil ?_ | refine Wp.wGs_cons ?_ | refine Wp.wLG_name (by decide) ?_)
  | refine Wp.wE_var rfl ?_
  | refine ⟨_, rfl, ?_⟩
  | refine ⟨Wp.len_ok rfl, ?_⟩
  | dsimp only
  | dsimp only [Wp.wipeG, List.set_cons_zero, List.set_cons_succ, List.cons_append, List.nil_append, List.map_cons, List.map_nil, Wp.mkTup0, Wp.mkTup1, Wp.mkTup2, Wp.mkTup3, Wp.mkTup4, Wp.mkTup5, Wp.mkTup6, Wp.mkLst0, Wp.mkLst1, Wp.mkLst2, Wp.mkLst3, Wp.mkLst4, Wp.mkLst5, Wp.mkLst6, Wp.mkLst7, Wp.mkLst8, Wp.mkLst9, Wp.mkLst10, Wp.mkLst11, Wp.mkLst12, Wp.mkLst13, Wp.mkLst14, Wp.mkLst15, Wp.mkLst16, List.take_succ_cons, List.take_zero, List.drop_succ_cons, List.drop_zero, List.take_nil, List.drop_nil]
  | rw [Wp.mkTup_d] | rw [Wp.mkLst_d] | rw [Wp.mkLst_cut] | rw [Wp.mkLst_app] | rw [Wp.mkLst_rep] | rw [Wp.mkTup_rev] | rw [List.append_nil]
  | refine Wp.wR_listL (Or.inl rfl) ?_ | refine Wp.wO_ixL (Or.inl rfl) rfl ?_ | refine Wp.wO_ixL (Wp.SeqL.own 1 rfl) rfl ?_ | refine Wp.wO_ixL (Wp.SeqL.own 2 rfl) rfl ?_ | refine Wp.wO_ixT rfl rfl ?_ | refine Wp.wO_ixST rfl rfl ?_
  | refine ⟨1, _, _, _, _, rfl, rfl, rfl, rfl, ?_⟩ | refine ⟨2, _, _, _, _, rfl, rfl, rfl, rfl, ?_⟩
  | refine Wp.wO_eqI ?_ | refine Wp.wO_neI ?_ | refine Wp.wO_eqS ?_ | refine Wp.wO_neS ?_
  | refine Wp.wO_intI rfl ?_ | refine Wp.wO_intB rfl ?_
  | refine Wp.wR_int ?_ | refine Wp.wR_intB ?_
  | refine Wp.wO_isB ?_ | refine Wp.wO_notB ?_ | refine Wp.wO_isN ?_ | refine Wp.wO_notN ?_)
local macro_rules | `(tactic| walk_at "w0") => `(tactic| (dsimp only [cxOf, Cx.nox, Cx.wish]; simp only [List.map_cons, List.map_nil, List.length_cons, List.length_nil, Nat.reduceAdd, Nat.reduceSub, List.replicate_succ, List.replicate_zero, List.cons_append, List.nil_append]))
/-- a rule that may come into the place of the one at k -/
structure Oth (n : Int) (ds cs : List Str) (rs : List Rl) (k : List Key) (q : Rl) : Prop where
  ok : q.Ok n ds cs
  tl : q.told.length ≤ 4
  kk : q.key = k ∨ q.key ∉ rs.map Rl.key
  nw : q ∉ rs
def butKey (k : List Key) (r : Rl) : Bool := !decide (r.key = k)
theorem but_len {rs : List Rl} {r : Rl} (h : r ∈ rs) : (rs.filter (butKey r.key)).length + 1 ≤ rs.length := by
  induction rs with
  | nil => cases h
  | cons q rs ih =>
    rw [List.filter_cons]
    have le := List.length_filter_le (butKey r.key) rs
    rcases List.mem_cons.mp h with rfl | h
    · rw [show butKey r.key r = false from by simp [butKey]]
      simpa using le
    · have := ih h
      split
      · simp only [List.length_cons]; omega
      · simp only [List.length_cons]; omega
theorem but_nd {rs : List Rl} {r q : Rl} (nd : (rs.map Rl.key).Nodup) (h : q.key = r.key ∨ q.key ∉ rs.map Rl.key) : ((rs.filter (butKey r.key) ++ [q]).map Rl.key).Nodup := by
  rw [List.map_append]
  refine List.nodup_append.mpr ⟨nd.sublist ((List.filter_sublist).map _), by simp, fun a ha b hb z => ?_⟩
  simp only [List.map_cons, List.map_nil, List.mem_singleton] at hb
  subst hb z
  obtain ⟨x, hx, e⟩ := List.mem_map.mp ha
  obtain ⟨hx1, hx2⟩ := List.mem_filter.mp hx
  rcases h with h | h
  · simp [butKey] at hx2
    exact hx2 (e.trans h)
  · exact h (by rw [← e]; exact List.mem_map_of_mem hx1)
theorem oth_wf {n : Int} {ds cs : List Str} {rs : List Rl} {r q : Rl} (wf : WfG n ds cs rs) (hr : r ∈ rs) (o : Oth n ds cs rs r.key q) : WfG n ds cs (rs.filter (butKey r.key) ++ [q]) ∧ Dif n ds cs rs n ds cs (rs.filter (butKey r.key) ++ [q]) ∧ (rs.filter (butKey r.key) ++ [q]).length ≤ rs.length := by
  have l : (rs.filter (butKey r.key) ++ [q]).length ≤ rs.length := by
    rw [List.length_append]; exact but_len hr
  have mem : ∀ x ∈ rs.filter (butKey r.key) ++ [q], x ∈ rs ∨ x = q := fun x hx => by
    rcases List.mem_append.mp hx with h | h
    · exact .inl (List.mem_filter.mp h).1
    · exact .inr (List.mem_singleton.mp h)
  refine ⟨⟨wf.n1, wf.n64, wf.nd, wf.nc, wf.dn, wf.lc, fun x hx => ?_, fun x hx => ?_, but_nd wf.ks o.kk, Nat.le_trans l wf.rl⟩, ?_, l⟩
  · rcases mem x hx with h | rfl
    · exact wf.ok x h
    · exact o.ok
  · rcases mem x hx with h | rfl
    · exact wf.tl x h
    · exact o.tl
  · rintro ⟨_, _, _, p⟩
    exact o.nw (p.mem_iff.mpr (List.mem_append_right _ (List.mem_singleton.mpr rfl)))
def tOther : TF := fun ts os Φ _ => ∃ n ds cs rs, ∃ r : Rl, ts = [gateTr n ds cs rs, .d r.keyD] ∧ os = [] ∧ WfG n ds cs rs ∧ r ∈ rs ∧
  ∀ qs : List (List Rl), qs.length ≤ 100 → (∀ q ∈ qs, WfG n ds cs q ∧ Dif n ds cs rs n ds cs q ∧ q.length ≤ rs.length) → Φ [] (Wp.mkLst (qs.map (gateTr n ds cs)))
theorem getD_rule {rs : List Rl} {r : Rl} (h : r ∈ rs) (nd : (rs.map Rl.key).Nodup) : Wp.getD (.dT (rs.map Rl.key) (rs.map fun r => .d r.restD)) (.d r.keyD) = some (.d r.restD) := by
  show (Wp.keyT (.d (keyDat r.key))).bind (Wp.getK (rs.map Rl.key) (rs.map fun r => Tr.d r.restD)) = _
  rw [Wp.keyT_key]
  exact Wp.getK_map Rl.key (fun r => Tr.d r.restD) h nd
theorem key_one {rs : List Rl} (nd : (rs.map Rl.key).Nodup) {r q : Rl} (hr : r ∈ rs) (hq : q ∈ rs) (e : q.key = r.key) : q = r := by
  induction rs with
  | nil => cases hr
  | cons x rs ih =>
    rw [List.map_cons, List.nodup_cons] at nd
    rcases List.mem_cons.mp hr with h1 | h1
    · rcases List.mem_cons.mp hq with h2 | h2
      · rw [h1, h2]
      · subst h1
        exact absurd (by rw [← e]; exact List.mem_map_of_mem h2) nd.1
    · rcases List.mem_cons.mp hq with h2 | h2
      · subst h2
        exact absurd (by rw [e]; exact List.mem_map_of_mem h1) nd.1
      · exact ih nd.2 h1 h2
theorem mem_rep {d x : Dat} {b : Bool} (h : d ∈ (List.replicate (if b = true then (1 : Int) else 0).toNat [x]).flatten) : b = true ∧ d = x := by
  cases b <;> simp at h
  exact ⟨rfl, h⟩
theorem oth_later {n : Int} {ds cs : List Str} {rs : List Rl} {r : Rl} (wf : WfG n ds cs rs) (hr : r ∈ rs) (h : 1 < n) : Oth n ds cs rs r.key { r with later := (r.later + 1).fmod n } := by
  have o := wf.ok r hr
  have l0 := o.l0
  have l1 := o.l1
  refine ⟨⟨o.door, o.s0, o.s1, o.kind, Int.fmod_nonneg_of_pos _ (by omega), Int.fmod_lt_of_pos _ (by omega), o.told0, o.told1, o.len⟩, wf.tl r hr, .inl rfl, fun z => ?_⟩
  have e : (r.later + 1).fmod n = r.later := congrArg Rl.later (key_one wf.ks hr z rfl)
  rw [Int.fmod_eq_emod_of_nonneg _ (by omega)] at e
  by_cases q : r.later + 1 < n
  · rw [Int.emod_eq_of_lt (by omega) q] at e; omega
  · rw [show r.later + 1 = n by omega, Int.emod_self] at e; omega
theorem oth_keeps {n : Int} {ds cs : List Str} {rs : List Rl} {r : Rl} (wf : WfG n ds cs rs) (hr : r ∈ rs) (h : r.kind ≠ "") : Oth n ds cs rs r.key { r with keeps := !r.keeps } := by
  have o := wf.ok r hr
  refine ⟨⟨o.door, o.s0, o.s1, o.kind, o.l0, o.l1, fun z => absurd z h, o.told1, o.len⟩, wf.tl r hr, .inl rfl, fun z => ?_⟩
  have e : (!r.keeps) = r.keeps := congrArg Rl.keeps (key_one wf.ks hr z rfl)
  cases q : r.keeps <;> rw [q] at e <;> cases e
theorem oth_told {n : Int} {ds cs : List Str} {rs : List Rl} {r : Rl} (wf : WfG n ds cs rs) (hr : r ∈ rs) (h : r.told ≠ r.told.reverse) : Oth n ds cs rs r.key { r with told := r.told.reverse } := by
  have o := wf.ok r hr
  refine ⟨⟨o.door, o.s0, o.s1, o.kind, o.l0, o.l1, fun z => ⟨(o.told0 z).1, fun w hw => (o.told0 z).2 w (List.mem_reverse.mp hw)⟩, fun w hw => o.told1 w (List.mem_reverse.mp hw), by rw [List.length_reverse]; exact o.len⟩, by rw [List.length_reverse]; exact wf.tl r hr, .inl rfl, fun z => ?_⟩
  exact h (congrArg Rl.told (key_one wf.ks hr z rfl)).symm
theorem oth_kind {n : Int} {ds cs : List Str} {rs : List Rl} {r : Rl} {w : Str} (wf : WfG n ds cs rs) (hr : r ∈ rs) (hw : w ∈ ("?" : Str) :: cs) (h : [.inr r.door, .inl r.state, .inr w] ∉ rs.map Rl.key) : Oth n ds cs rs r.key { r with kind := w } := by
  have o := wf.ok r hr
  have we : w ≠ "" := by
    rintro rfl
    rcases List.mem_cons.mp hw with z | z
    · exact absurd z (by decide +kernel)
    · exact absurd (wf.nc.ok _ z) (by decide +kernel)
  refine ⟨⟨o.door, o.s0, o.s1, ?_, o.l0, o.l1, fun z => absurd z we, o.told1, o.len⟩, wf.tl r hr, .inr h, fun z => h (List.mem_map_of_mem (f := Rl.key) z)⟩
  rcases List.mem_cons.mp hw with z | z
  · rw [z]; exact List.mem_append_right _ (by simp)
  · exact List.mem_append_left _ z
theorem cut1 (xs : List Dat) : Wp.cutD xs none (some 1) = xs.take 1 := by
  cases xs with
  | nil => rfl
  | cons x xs =>
    have : HT.sIx (xs.length + 1) (xs.length + 1) (some 1) = 1 := by simp [HT.sIx]
    unfold Wp.cutD
    rw [List.length_cons, this]
    rfl
theorem shp_told {n : Int} {ds cs : List Str} {rs : List Rl} (wf : WfG n ds cs rs) {r : Rl} (hr : r ∈ rs) {us : List Str} (h : ∀ u ∈ us, u ∈ r.told) : Wp.Shp (.tup (us.map .str)) := (Wp.shp_row fun d hd => by
  obtain ⟨u, hu, rfl⟩ := List.mem_map.mp hd
  exact (told_tx (wf.ok r hr) wf.nc u (h u hu)).ok).1
theorem shp_key {n : Int} {ds cs : List Str} {rs : List Rl} (wf : WfG n ds cs rs) {r : Rl} (hr : r ∈ rs) : Wp.Shp r.keyD := (Wp.shp_row fun d hd => by
  have o := wf.ok r hr
  simp only [List.mem_cons, List.not_mem_nil, or_false] at hd
  rcases hd with rfl | rfl | rfl
  · exact (tx_name (wf.nd.ok _ o.door)).ok
  · rfl
  · exact (kind_tx wf.nc o.kind).ok).1
theorem eqv_keyD (x r : Rl) : PyData.eqv x.keyD.py r.keyD.py = decide (x.key = r.key) := Wp.eqv_keyDat x.key r.key
theorem key2 {K : PySem.W.Frag} {I : Wp.Ini} {Γ : Wp.Gm} {os : Os} {Φ : Os → Tr → Prop} {r : Rl} {w : Str} (h1 : Γ[1]? = some (some (.d r.keyD))) (h7 : Γ[7]? = some (some (.d (.str w)))) (k : Φ os (.d (.tup [.str r.door, .int r.state, .str w]))) :
    Wp.wE K I (tOp (rCatT K) (tSl (rSlT K) (tVar 1) tNoPart (tPart (tC (.int 2)))) (tTup (tCons (tVar 7) tNil))) Γ os Φ := by
  refine Wp.wE_op (Wp.wE_sl (Wp.wE_var h1 (Wp.wP_none (Wp.wP_some (Wp.wE_int ⟨_, rfl, Wp.wL_tup (ts := [.d (.str r.door), .d (.int r.state), .d (.str r.kind)]) rfl (fun z => by have := z.2; simp [HT.sIx] at this) ?_⟩)))))
  refine Wp.wE_tup (Wp.wA_cons (Wp.wE_var h7 (Wp.wA_nil ⟨Wp.len_ok rfl, ?_⟩)))
  exact Wp.wO_catT (ts := [.d (.str r.door), .d (.int r.state)]) (us := [.d (.str w)]) rfl rfl (by simp) (by simp) (Nat.le_of_ble_eq_true rfl) k
/-- the law's gate with one part put anew -/
def gP (a b c d : Tr) : List (Key × Tr) := [(.inr "states", a), (.inr "doors", b), (.inr "closet", c), (.inr "rules", d)]
theorem gP_ne : ((Sum.inr "states" : Key) ≠ .inr "doors" ∧ (Sum.inr "states" : Key) ≠ .inr "closet" ∧ (Sum.inr "states" : Key) ≠ .inr "rules") ∧ ((Sum.inr "doors" : Key) ≠ .inr "closet" ∧ (Sum.inr "doors" : Key) ≠ .inr "rules") ∧ (Sum.inr "closet" : Key) ≠ .inr "rules" := by
  refine ⟨⟨?_, ?_, ?_⟩, ⟨?_, ?_⟩, ?_⟩ <;> exact fun z => absurd (Sum.inr.inj z) (by decide +kernel)
theorem gP_nd (a b c d : Tr) : Wp.mergeP [] (gP a b c d) = gP a b c d := by
  obtain ⟨⟨h1, h2, h3⟩, ⟨h4, h5⟩, h6⟩ := gP_ne
  refine Wp.mergeP_nd ?_
  simp [gP, h1, h2, h3, h4, h5, h6]
theorem merge_app {κ : Type} [DecidableEq κ] (ps qs : List (κ × Tr)) : Wp.mergeP [] (ps ++ qs) = Wp.mergeP (Wp.mergeP [] ps) qs := by unfold Wp.mergeP; rw [List.foldl_append]
theorem put_rules (a b c d z : Tr) : Wp.mergeP [] (gP a b c d ++ [(.inr "rules", z)]) = gP a b c z := by
  obtain ⟨⟨h1, h2, h3⟩, ⟨h4, h5⟩, h6⟩ := gP_ne
  rw [merge_app, gP_nd]
  simp [Wp.mergeP, Wp.putP, gP, h3, h5, h6]
theorem put_states (a b c d z : Tr) : Wp.mergeP [] (gP a b c d ++ [(.inr "states", z)]) = gP z b c d := by
  obtain ⟨⟨h1, h2, h3⟩, ⟨h4, h5⟩, h6⟩ := gP_ne
  rw [merge_app, gP_nd]
  simp [Wp.mergeP, Wp.putP, gP, h1.symm, h2.symm, h3.symm]
theorem put_doors (a b c d z : Tr) : Wp.mergeP [] (gP a b c d ++ [(.inr "doors", z)]) = gP a z c d := by
  obtain ⟨⟨h1, h2, h3⟩, ⟨h4, h5⟩, h6⟩ := gP_ne
  rw [merge_app, gP_nd]
  simp [Wp.mergeP, Wp.putP, gP, h1, h4.symm, h5.symm]
theorem put_closet (a b c d z : Tr) : Wp.mergeP [] (gP a b c d ++ [(.inr "closet", z)]) = gP a b z d := by
  obtain ⟨⟨h1, h2, h3⟩, ⟨h4, h5⟩, h6⟩ := gP_ne
  rw [merge_app, gP_nd]
  simp [Wp.mergeP, Wp.putP, gP, h2, h4, h6.symm]
theorem mk_rules {rs : List Rl} (nd : (rs.map Rl.key).Nodup) : Wp.mkT (Wp.mergeP [] (rs.map fun x => (x.key, Tr.d x.restD))) = .dT (rs.map Rl.key) (rs.map fun r => .d r.restD) := by
  rw [Wp.mergeP_nd (by rw [List.nil_append, List.map_map]; exact nd), List.nil_append]
  unfold Wp.mkT
  rw [List.map_map, List.map_map]
  rfl
section
variable {P : Program} {w : World} {K : PySem.W.Frag} {mg : Str → Option Value} {base : Heap}
abbrev s_law_rule_otherwise : Stmt := top 32
theorem sc_law_rule_otherwise : FnScope ["gate", "key", "later", "keeps", "words", "some", "kinds", "kind", "found", "other", "rest", "rules", "one"] ["gate", "key"] (defScope s_law_rule_otherwise) := ⟨rfl, rfl, rfl, by decide +kernel, rfl, by decide +kernel, by decide +kernel⟩
theorem ok_other {f : Addr} {fd : FuncData} (F : Fun K "_law_rule_otherwise" "_law_rule_otherwise" s_law_rule_otherwise f fd) (T : Bl mg) : Fn P w K mg base CX0 3 f fd ["gate", "key"] (spW K tOther) := by
  refine Wp.fn_w F sc_law_rule_otherwise (fun ts os Φ Ψ ⟨n, ds, cs, rs, r, e, _⟩ => by rw [e]; rfl) fun cdv A outer s H E hc hr => ?_
  have hu := hu_of hr
  have hu64 := hr.units
  refine ⟨_, (pss_cons (ps_asg (pe_dget hu (pe_dget hu (pv 0) pe_str (fun _ _ => rfl)) (pv 1) (fun _ _ => rfl)) (pg_tup (by rfl) (pgs_cons (pg_name (i := 2) sc_law_rule_otherwise.nd rfl (Or.inr rfl)) (pgs_cons (pg_name (i := 3) sc_law_rule_otherwise.nd rfl (Or.inr rfl)) (pgs_cons (pg_name (i := 4) sc_law_rule_otherwise.nd rfl (Or.inr rfl)) pgs_nil)))))
 (pss_cons (ps_set (i := 5) sc_law_rule_otherwise.nd rfl (Or.inl rfl) (pe_op op_rep (pe_lst (pa_cons (pe_tup (pa_cons (pv 1) (pa_cons (pe_tup (pa_cons (pe_op op_modN (pe_callTy call_int1 (by rfl) T.intN (by decide +kernel) (pa_cons (pe_op op_add (pv 2) pe_int) pa_nil)) (pe_dget hu (pv 0) pe_str (fun _ _ => rfl))) (pa_cons (pv 3) (pa_cons (pv 4) pa_nil)))) pa_nil))) pa_nil)) (pe_callTy call_int1 (by rfl) T.intN (by decide +kernel) (pa_cons (pe_cmpR op_gt (pe_dget hu (pv 0) pe_str (fun _ _ => rfl)) pe_int (nomark _)) pa_nil))))
 (pss_cons (ps_set (i := 5) sc_law_rule_otherwise.nd rfl (Or.inl rfl) (pe_op op_cat (pv 5) (pe_op op_rep (pe_lst (pa_cons (pe_tup (pa_cons (pv 1) (pa_cons (pe_tup (pa_cons (pv 2) (pa_cons (pe_not (pv 3)) (pa_cons (pv 4) pa_nil)))) pa_nil))) pa_nil)) (pe_callTy call_int1 (by rfl) T.intN (by decide +kernel) (pa_cons (pe_cmpR op_ne (pe_ix ix_tup (pv 1) pe_int (fun _ _ => rfl)) pe_str (nomark _)) pa_nil)))))
 (pss_cons (ps_set (i := 5) sc_law_rule_otherwise.nd rfl (Or.inl rfl) (pe_op op_cat (pv 5) (pe_op op_rep (pe_lst (pa_cons (pe_tup (pa_cons (pv 1) (pa_cons (pe_tup (pa_cons (pv 2) (pa_cons (pv 3) (pa_cons (De.pe_revT (pv 4)) pa_nil)))) pa_nil))) pa_nil)) (pe_callTy call_int1 (by rfl) T.intN (by decide +kernel) (pa_cons (pe_cmpR (op_neD hu64) (pv 4) (De.pe_revT (pv 4)) (nomark _)) pa_nil)))))
 (pss_cons (ps_setLc (i := 6) (own := [("kind", 7)]) (g := gName 7)  rfl sc_law_rule_otherwise.nd rfl rfl (sw_true rfl rfl rfl (by decide +kernel)) (pi_list (pe_op op_cat (pe_lst (pa_cons pe_str pa_nil)) (pe_dget hu (pv 0) pe_str (fun _ _ => rfl)))) (blkOk_by (N := ["gate", "key", "later", "keeps", "words", "some", "kinds", "kind", "found", "other", "rest", "rules", "one"]) (sc := defScope s_law_rule_otherwise) (by decide +kernel)) (fun _ _ _ _ _ => (pg_name (i := 7) sc_law_rule_otherwise.nd rfl (Or.inl rfl))) (fun _ _ _ _ _ => (pts_one (pt_cmp (pc_dnotin hu (pe_op (op_catTK (K := K) rfl) (pe_slice (sl_tupK (K := K) rfl) (pv 1) po_none (po_some pe_int)) (pe_tup (pa_cons (pv 7) pa_nil))) (pe_dget hu (pv 0) pe_str (fun _ _ => rfl)))))) (fun _ _ _ _ _ => (pv 7)))
 (pss_cons (ps_set (i := 5) sc_law_rule_otherwise.nd rfl (Or.inl rfl) (pe_op op_cat (pv 5) (pe_lc (own := [("kind", 7)]) (g := gName 7) (tt := tYes) rfl sc_law_rule_otherwise.nd (pi_list (pe_slice sl_list (pv 6) po_none (po_some pe_int))) (blkOk_by (N := ["gate", "key", "later", "keeps", "words", "some", "kinds", "kind", "found", "other", "rest", "rules", "one"]) (sc := defScope s_law_rule_otherwise) (by decide +kernel)) (fun _ _ _ _ _ => (pg_name (i := 7) sc_law_rule_otherwise.nd rfl (Or.inl rfl))) (fun _ _ _ _ _ => pts_nil) (fun _ _ _ _ _ => (pe_tup (pa_cons (pe_op (op_catTK (K := K) rfl) (pe_slice (sl_tupK (K := K) rfl) (pv 1) po_none (po_some pe_int)) (pe_tup (pa_cons (pv 7) pa_nil))) (pa_cons (pe_tup (pa_cons (pv 2) (pa_cons (pv 3) (pa_cons (pv 4) pa_nil)))) pa_nil)))))))
 (pss_cons (ps_set (i := 8) sc_law_rule_otherwise.nd rfl (Or.inl rfl) (pe_lst pa_nil))
 (pss_cons (ps_for PassesOwn.never rfl (pi_list (pv 5)) (pg_tup (by rfl) (pgs_cons (pg_name (i := 9) sc_law_rule_otherwise.nd rfl (Or.inl rfl)) (pgs_cons (pg_name (i := 10) sc_law_rule_otherwise.nd rfl (Or.inl rfl)) pgs_nil)))
  (pss_cons (ps_set (i := 11) sc_law_rule_otherwise.nd rfl (Or.inl rfl) (pe_callTy (call_dictPT rfl hu64) (by rfl) T.dictN (by decide +kernel) (pa_cons (pe_op op_cat (pe_lock (pe_lc (own := [("one", 12)]) (g := gName 12)  rfl sc_law_rule_otherwise.nd (pi_keys (pe_dget hu (pv 0) pe_str (fun _ _ => rfl))) (blkOk_by (N := ["gate", "key", "later", "keeps", "words", "some", "kinds", "kind", "found", "other", "rest", "rules", "one"]) (sc := defScope s_law_rule_otherwise) (by decide +kernel)) (fun _ _ _ _ _ => (pg_name (i := 12) sc_law_rule_otherwise.nd rfl (Or.inl rfl))) (fun _ _ _ _ _ => (pts_one (pt_cmpR (op_neDK (K := K) rfl hu64) (pv 12) (pv 1) (nomark _)))) (fun _ _ _ _ _ => (pe_tup (pa_cons (pv 12) (pa_cons (pe_dget hu (pe_dget hu (pv 0) pe_str (fun _ _ => rfl)) (pv 12) (fun _ _ => rfl)) pa_nil)))))) (pe_lst (pa_cons (pe_tup (pa_cons (pv 9) (pa_cons (pv 10) pa_nil))) pa_nil))) pa_nil)))
 (pss_one (ps_expr (pe_bm PySem.F.plainAttrs_list PySem.F.slot_list_append PySem.F.type_list_append mt_append (pv 8) (pa_cons (pe_callTy (call_dictP rfl) (by rfl) T.dictN (by decide +kernel) (pa_cons (pe_op op_cat (LiI.pe_listItems rfl (pv 0) (by rfl) T.listN (by decide +kernel)) (pe_lst (pa_cons (pe_tup (pa_cons pe_str (pa_cons (pv 11) pa_nil))) pa_nil))) pa_nil)) pa_nil))))))
 (pss_one (ps_ret (pv 8))))))))))), ?_⟩
  rintro I ts os Φ Ψ hl ⟨n, ds, cs, rs, r, rfl, rfl, wf, hr, k⟩
  walk_at "w0"
  repeat' walk_at "w1"
  refine ⟨_, getD_rule hr wf.ks, ?_⟩
  repeat' walk_at "w1"
  refine Wp.wG_tup ⟨[.d (.int r.later), .d (.bl r.keeps), .d (.tup (r.told.map .str))], rfl, rfl, ?_⟩
  repeat' walk_at "w1"
  refine Wp.wE_lst ?_
  repeat' walk_at "w1"
  refine Wp.wO_intC (by have := wf.n1; omega) rfl ?_
  repeat' walk_at "w1"
  have c01 : ∀ b : Bool, -(2 ^ 63) ≤ (if b = true then (1 : Int) else 0) ∧ (if b = true then (1 : Int) else 0) < 2 ^ 63 ∧ (if b = true then (1 : Int) else 0).toNat ≤ 1 := fun b => by cases b <;> decide
  have rl1 : ∀ (x : Dat) (b : Bool), ([x].map Tr.d).length * (if b = true then (1 : Int) else 0).toNat ≤ sizeLine := fun x b => Nat.le_trans (Nat.mul_le_mul (Nat.le_refl 1) (c01 b).2.2) (by decide)
  refine Wp.wO_rep .dat (c01 _).1 (c01 _).2.1 (rl1 _ _) ?_
  repeat' walk_at "w1"
  refine Wp.wE_lst ?_
  repeat' walk_at "w1"
  have lr : ∀ (x : Dat) (b : Bool), (List.replicate (if b = true then (1 : Int) else 0).toNat [x]).flatten.length ≤ 1 := fun x b => by cases b <;> exact (by simp)
  have sl : ∀ {k : Nat}, k ≤ 1000 → k ≤ sizeLine := fun h => Nat.le_trans h (by decide)
  refine Wp.wO_rep .dat (c01 _).1 (c01 _).2.1 (rl1 _ _) ?_
  repeat' walk_at "w1"
  refine Wp.wO_cat .dat .dat (sl ?_) ?_
  · rw [List.length_map, List.length_map]
    have := lr
    refine Nat.le_trans (Nat.add_le_add (lr _ _) (lr _ _)) (by decide)
  repeat' walk_at "w1"
  refine Wp.wE_lst ?_
  repeat' walk_at "w1"
  rw [← List.map_reverse]
  refine Wp.wO_neD ?_ ?_ ?_
  rotate_left 2
  rw [Wp.eqv_tstrs]
  repeat' walk_at "w1"
  refine Wp.wO_rep .dat (c01 _).1 (c01 _).2.1 (rl1 _ _) ?_
  repeat' walk_at "w1"
  refine Wp.wO_cat .dat .dat (sl ?_) ?_
  · rw [List.length_map, List.length_map, List.length_append]
    refine Nat.le_trans (Nat.add_le_add (Nat.add_le_add (lr _ _) (lr _ _)) (lr _ _)) (by decide)
  repeat' walk_at "w1"
  generalize hS : (List.replicate (if decide (1 < n) = true then (1 : Int) else 0).toNat _).flatten ++ (List.replicate _ _).flatten ++ (List.replicate _ _).flatten = S
  have lS : S.length ≤ 3 := by
    rw [← hS, List.length_append, List.length_append]
    exact Nat.le_trans (Nat.add_le_add (Nat.add_le_add (lr _ _) (lr _ _)) (lr _ _)) (by decide)
  have mS : ∀ d ∈ S, ∃ q : Rl, d = .tup [q.keyD, q.restD] ∧ Oth n ds cs rs r.key q := by
    intro d hd
    rw [← hS] at hd
    rcases List.mem_append.mp hd with hd | hd
    · rcases List.mem_append.mp hd with hd | hd
      · obtain ⟨hb, rfl⟩ := mem_rep hd
        exact ⟨{ r with later := (r.later + 1).fmod n }, rfl, oth_later wf hr (of_decide_eq_true hb)⟩
      · obtain ⟨hb, rfl⟩ := mem_rep hd
        exact ⟨{ r with keeps := !r.keeps }, rfl, oth_keeps wf hr (by simpa using hb)⟩
    · obtain ⟨hb, rfl⟩ := mem_rep hd
      exact ⟨{ r with told := r.told.reverse }, rfl, oth_told wf hr (by simpa using hb)⟩
  clear hS
  refine Wp.wE_lc ?_
  repeat' walk_at "w1"
  refine Wp.wE_lst ?_
  repeat' walk_at "w1"
  refine Wp.wO_cat .dat .dat (sl ?_) ?_
  · rw [List.length_map, List.length_map, List.length_map]
    exact Nat.le_trans (Nat.add_le_add (Nat.le_refl 1) wf.lc) (by decide)
  repeat' walk_at "w1"
  refine Wp.lc_filtG (("?" : Str) :: cs) (fun w => .d (.str w)) (fun w => !(Wp.getK (rs.map Rl.key) (rs.map fun r => Tr.d r.restD) [.inr r.door, .inl r.state, .inr w]).isSome) (fun w => .d (.str w)) (by rw [List.map_cons, List.map_cons, List.map_map]; rfl) (Nat.lt_of_le_of_lt (Nat.succ_le_succ wf.lc) (by decide)) (fun w hw => ?_) ?_
  · repeat' walk_at "w1"
    refine Wp.wE_dnotInT (key2 rfl rfl ?_)
    repeat' walk_at "w1"
    refine ⟨_, _, [.inr r.door, .inl r.state, .inr w], rfl, rfl, _, rfl, rfl, rfl, fun _ => ?_⟩
    repeat' walk_at "w1"
    exact ⟨rfl, rfl⟩
  generalize hW : List.filter _ (("?" : Str) :: cs) = ws
  have mW : ∀ w ∈ ws, w ∈ ("?" : Str) :: cs ∧ [.inr r.door, .inl r.state, .inr w] ∉ rs.map Rl.key := fun w hw => by
    rw [← hW] at hw
    obtain ⟨h1, h2⟩ := List.mem_filter.mp hw
    refine ⟨h1, fun z => ?_⟩
    obtain ⟨t, e⟩ := Wp.getK_some (ts := rs.map fun r => Tr.d r.restD) (by rw [List.length_map, List.length_map]) z
    rw [e] at h2
    cases h2
  clear hW
  rw [show (ws.map fun w => Tr.d (Dat.str w)) = (ws.map Dat.str).map .d from by rw [List.map_map]; rfl, Wp.mkLst_d]
  repeat' walk_at "w1"
  refine Wp.wE_lc ?_
  repeat' walk_at "w1"
  refine Wp.wL_list .dat ?_
  repeat' walk_at "w1"
  refine Wp.lc_mapG (ws.take 1) (fun w => .d (.str w)) (fun w => .d (.tup [Rl.keyD { r with kind := w }, r.restD])) (by rw [cut1, ← List.map_take, List.map_map]; rfl) (Nat.lt_of_le_of_lt (List.length_take_le _ _) (by decide)) (fun w hw => ?_) ?_
  · refine Wp.wLG_name (by decide) (Wp.wE_tup (Wp.wA_cons (key2 rfl rfl ?_)))
    repeat' walk_at "w1"
    exact ⟨rfl, rfl⟩
  have lW : (ws.take 1).length ≤ 1 := List.length_take_le _ _
  rw [show ((ws.take 1).map fun w => Tr.d (.tup [Rl.keyD { r with kind := w }, r.restD])) = ((ws.take 1).map fun w => Dat.tup [Rl.keyD { r with kind := w }, r.restD]).map .d from by rw [List.map_map]; rfl, Wp.mkLst_d]
  refine Wp.wO_cat .dat .dat (sl ?_) ?_
  · rw [List.length_map, List.length_map, List.length_map]; omega
  rw [Wp.mkLst_app]
  generalize hS2 : S ++ _ = S2
  have lS2 : S2.length ≤ 4 := by rw [← hS2, List.length_append, List.length_map]; omega
  have mS2 : ∀ d ∈ S2, ∃ q : Rl, d = .tup [q.keyD, q.restD] ∧ Oth n ds cs rs r.key q := fun d hd => by
    rw [← hS2] at hd
    rcases List.mem_append.mp hd with hd | hd
    · exact mS d hd
    · obtain ⟨w, hw, rfl⟩ := List.mem_map.mp hd
      obtain ⟨h1, h2⟩ := mW w (List.mem_of_mem_take hw)
      exact ⟨{ r with kind := w }, rfl, oth_kind wf hr h1 h2⟩
  clear hS2 mS lS
  repeat' walk_at "w1"
  refine Wp.wE_lstO ?_
  repeat' walk_at "w1"
  intro p
  repeat' walk_at "w1"
  generalize Wp.Tr.d (Dat.lst (ws.map Dat.str)) = t6
  refine ⟨fun i Γ os => ∃ (o9 o10 o11 o12 : Option Tr) (qs : List (List Rl)), Γ = [some (gateTr n ds cs rs), some (.d r.keyD), some (.d (.int r.later)), some (.d (.bl r.keeps)), some (.d (.tup (r.told.map .str))), some (.d (.lst S2)), some t6, none, some (.v (.ref p)), o9, o10, o11, o12] ∧
    os = [(p, .lst (qs.map (gateTr n ds cs)))] ∧ qs.length = i ∧ ∀ q ∈ qs, WfG n ds cs q ∧ Dif n ds cs rs n ds cs q ∧ q.length ≤ rs.length, ⟨none, none, none, none, [], rfl, rfl, rfl, fun _ h => nomatch h⟩, ?_, ?_⟩
  · rintro i t Γ os ht ⟨o9, o10, o11, o12, qs, rfl, rfl, lq, wq⟩
    rw [List.getElem?_map] at ht
    obtain ⟨d, hd, rfl⟩ := Option.map_eq_some_iff.mp ht
    obtain ⟨hi, _⟩ := List.getElem?_eq_some_iff.mp hd
    obtain ⟨q, rfl, oq⟩ := mS2 d (List.mem_of_getElem? hd)
    refine Wp.wG_tup ⟨[.d q.keyD, .d q.restD], rfl, rfl, ?_⟩
    repeat' walk_at "w1"
    refine Wp.wE_keysT hl (Wp.wK_get (Wp.wK_var rfl) rfl rfl) (fun I' => ?_)
    refine Wp.lc_filtG rs (fun x => .d x.keyD) (butKey r.key) (fun x => .d (.tup [x.keyD, x.restD])) (by rw [List.map_map]; rfl) (Nat.lt_of_le_of_lt wf.rl (by decide)) (fun x hx => ?_) ?_
    · repeat' walk_at "w1"
      refine Wp.wO_neD (shp_key wf hx) (shp_key wf hr) ?_
      rw [eqv_keyD]
      refine ⟨_, rfl, rfl, rfl, fun _ => ?_⟩
      repeat' walk_at "w1"
      refine ⟨_, getD_rule hx wf.ks, ?_⟩
      repeat' walk_at "w1"
      exact ⟨rfl, rfl⟩
    obtain ⟨w1, w2, w3⟩ := oth_wf wf hr oq
    have lrs : (rs.filter (butKey r.key)).length ≤ 100 := Nat.le_trans (List.length_filter_le _ _) wf.rl
    refine Wp.wE_lst ?_
    repeat' walk_at "w1"
    refine Wp.wO_cat (.frozen (Wp.asL_mk _)) .dat (sl ?_) ?_
    · rw [List.length_map]; show _ + 1 ≤ _; omega
    repeat' walk_at "w1"
    refine Wp.wR_dictPT (ps := (rs.filter (butKey r.key) ++ [q]).map fun x => (x.key, Tr.d x.restD)) (.frozen (Wp.asL_mk _)) ?_ ?_
    · rw [show ((rs.filter (butKey r.key)).map (fun x => Tr.d (.tup [x.keyD, x.restD])) ++ [Dat.tup [q.keyD, q.restD]].map .d) = (rs.filter (butKey r.key) ++ [q]).map fun a => .d (.tup [keyDat (Rl.key a), Rl.restD a]) from by rw [List.map_append]; rfl]
      exact Wp.asPairsT_map Rl.key Rl.restD _
    rw [mk_rules w1.ks]
    repeat' walk_at "w1"
    refine ⟨Wp.wY_own (j := 0) rfl, ?_⟩
    repeat' walk_at "w1"
    refine ⟨_, _, rfl, rfl, ?_⟩
    refine Wp.wE_lst ?_
    repeat' walk_at "w1"
    refine Wp.wO_cat (.frozen (Wp.asL_mk _)) (.frozen (Wp.asL_mk _)) (Nat.le_of_ble_eq_true rfl) ?_
    repeat' walk_at "w1"
    refine Wp.wR_dictP (ps := gP _ _ _ _ ++ [(.inr "rules", .dT ((rs.filter (butKey r.key) ++ [q]).map Rl.key) ((rs.filter (butKey r.key) ++ [q]).map fun r => .d r.restD))]) (.frozen (Wp.asL_mk _)) (by rfl) ?_
    rw [put_rules]
    repeat' walk_at "w1"
    refine Wp.wM_append (j := 0) rfl ?_ ?_
    · rw [List.length_map]; exact Nat.lt_of_lt_of_le (by omega : qs.length < 1000) (by decide)
    refine ⟨_, _, _, _, qs ++ [rs.filter (butKey r.key) ++ [q]], rfl, by rw [List.map_append (f := gateTr n ds cs)]; rfl, by rw [List.length_append, lq]; rfl, fun x hx => ?_⟩
    rcases List.mem_append.mp hx with hx | hx
    · exact wq x hx
    · rw [List.mem_singleton] at hx
      subst hx
      exact ⟨w1, w2, w3⟩
  · rintro Γ os ⟨o9, o10, o11, o12, qs, rfl, rfl, lq, wq⟩
    refine Wp.wS_frz 8 0 rfl rfl ?_
    repeat' walk_at "w1"
    rw [List.length_map] at lq
    exact k qs (by omega) wq
  · exact shp_told wf hr fun u hu => hu
  · exact shp_told wf hr fun u hu => List.mem_reverse.mp hu
end
end K

set_option Elab.async false
set_option linter.all false
set_option maxRecDepth 100000
set_option maxHeartbeats 8000000
namespace K
open PySem PySem.Spec PyProof.Rows L2 G D L S C Sx Kx Ex Lt Qe De Er Ne
open Fz hiding Fr
open C8 (pss_cut tCut)
open PySem.W (dataLt alike AllAlike Sortable)
open Wp (Tr RepT RepTs spW TF Wo Stp Os Now Nxt DatAt wR wO wE wA)
/-! the law's gate is drawn -/
def tDrawnGate : TF := fun ts os Φ _ => ∃ b n ds cs ck, ts = [.v (.ref b), .d (.int n), .d (.lst (ds.map .str)), .d (.lst (cs.map .str)), .d (.bl ck)] ∧ os = [(b, .bag)] ∧ 1 ≤ n ∧ n ≤ 64 ∧ Names ds ∧ Names cs ∧ ds ≠ [] ∧ cs.length ≤ 16 ∧
  ∀ (us ws : List Str) (rs : List Rl), us.Perm ds → ws.Perm cs → sortS us = us → sortS ws = ws → WfG n us ws rs → rs.length ≤ 7 → rs ≠ [] → (∀ r ∈ rs, r.told.length ≤ 3) → Φ [(b, .bag)] (gateTr n us ws rs)
theorem drawn_w {K : PySem.W.Frag} : ∀ vs H Q E, spW K tDrawnGate vs H Q E → spDrawnGate K vs H Q E := by
  rintro vs H Q E ⟨F, ts, os, Φ, Ψ, wo, r, ⟨b, n, ds, cs, ck, rfl, rfl, n1, n64, nd, nc, dn, lc, h⟩, k1, _⟩
  obtain ⟨v1, _, rfl, r1, v2, _, rfl, r2, v3, _, rfl, r3, v4, _, rfl, r4, v5, _, rfl, r5, rfl⟩ := r
  cases (show v1 = .ref b from r1)
  cases (show v2 = .int n from r2)
  cases (show v5 = .bl ck from r5)
  refine ⟨b, n, v3, v4, ck, F, ds, cs, rfl, Wp.bag_fr wo, r3, r4, n1, n64, nd, nc, dn, lc, fun g r kvs rs us ws F' H' own lg p1 p2 e1 e2 lr ks l7 rne oks => ?_⟩
  obtain ⟨st, wo'⟩ := Wp.go_step (K := K) own.go
  have up : Same F' (upd F' r (.dT kvs)) := same_upd own.fD
  have sb : Same (upd F' r (.dT kvs)) H' := fun y o e => by
    by_cases z : y = r
    · subst z; rw [upd_same] at e; cases e; exact own.at1
    · rw [upd_ne z] at e; exact wo'.sub.same _ _ e
  have wf : WfG n us ws rs := ⟨n1, n64, nd.perm p1, nc.perm p2, fun z => dn (List.length_eq_zero_iff.mp (by rw [← p1.length_eq, z]; rfl)), by rw [p2.length_eq]; exact lc, fun x hx => (oks x hx).1, fun x hx => Nat.le_trans (oks x hx).2 (by decide), ks, by omega⟩
  refine k1 [(b, .bag)] _ _ (upd F' r (.dT kvs)) H' (h us ws rs p1 p2 (by rw [sortS_perm p1]; exact sortS_eq e1) (by rw [sortS_perm p2]; exact sortS_eq e2) wf l7 rne fun x hx => (oks x hx).2) ?_ ?_ (of_lgf ⟨r, kvs, lg.mono up, upd_same, lr.mono up⟩)
  · refine ⟨st.up.trans up, st.but, fun y o e => ?_, fun a ha => .inl ha⟩
    by_cases z : y = r
    · subst z; exact .inr (.inl own.z0)
    · rw [upd_ne z] at e; exact st.new y o e
  · refine ⟨.of sb, fun c hc => ?_, fun c hc => (wo'.ok c hc).keep (fun o e => e) up wo'.sub (Wp.Sub.of (lk := []) sb), wo'.nd⟩
    rw [List.mem_singleton] at hc
    subst hc
    show upd F' r (.dT kvs) b = none
    rw [upd_ne own.nD.symm]
    exact wo'.out (b, .bag) List.mem_cons_self
section
variable {K : PySem.W.Frag} {I : Wp.Ini} {Γ : Wp.Gm} {os : Os} {Φ : Os → Tr → Prop} {x y : Tr} {C : Addr}
theorem rl_tonly (r : Rl) : Wp.tonly r.dat = true := by
  have : ∀ ws : List Str, Wp.tonlyAll (ws.map .str) = true := by
    intro ws
    induction ws with
    | nil => rfl
    | cons w ws ih => exact ih
  show (true && (true && (true && (true && (true && (Wp.tonlyAll (r.told.map .str) && true)))))) = true
  rw [this]
  rfl
theorem rls_tonly : ∀ rs : List Rl, Wp.tonlyAll (rs.map Rl.dat) = true
  | [] => rfl
  | r :: rs => by
    show (Wp.tonly r.dat && Wp.tonlyAll (rs.map Rl.dat)) = true
    rw [rl_tonly, rls_tonly rs]
    rfl
/-- found and due are equal data -/
theorem wR_alike {d : Dat} (h1 : DatAt K os x d) (h2 : DatAt K os y d) (c1 : d.py.canLay0 = true) (c2 : Fine 40 sizeLine d) (h : Φ os (.d (.bl true))) : wR K I (fun vs H Q => spAlike K vs H Q E0) [x, y] os Φ := fun F H vs Q n r c => by
  obtain ⟨v, _, rfl, rv, u, _, rfl, ru, rfl⟩ := r
  exact ⟨v, u, d, rfl, h1 _ _ _ _ n rv, h2 _ _ _ _ n ru, c1, c2, c os _ _ F H h n.self rfl⟩
def badT : Option Int → Dat
  | none => .non
  | some k => .int k
theorem wR_due {x1 x2 x3 x4 : Tr} {st dd cd rd : Dat} (h1 : DatAt K os x1 st) (h2 : DatAt K os x2 dd) (h3 : DatAt K os x3 cd) (h4 : DatAt K os x4 rd) (ok : ArgOk st dd cd rd) (h : Φ os (.d (badT (badArg st dd cd rd)))) :
    wR K I (fun vs H Q => spDue K vs H Q E0) [x1, x2, x3, x4] os Φ := fun F H vs Q n r c => by
  obtain ⟨v1, _, rfl, r1, v2, _, rfl, r2, v3, _, rfl, r3, v4, _, rfl, r4, rfl⟩ := r
  refine ⟨v1, v2, v3, v4, st, dd, cd, rd, rfl, h1 _ _ _ _ n r1, h2 _ _ _ _ n r2, h3 _ _ _ _ n r3, h4 _ _ _ _ n r4, ok, fun H' s => ?_⟩
  refine c os _ _ F H' h (n.grow s) ?_
  cases badArg st dd cd rd <;> rfl
theorem wR_heardG {ts : List Tr} (hd : ∀ F H vs, Now K I F H os → RepTs K F vs ts → ∃ v1 v2 v3 v4 st dd cd rd, vs = [v1, v2, v3, v4] ∧ Rep K H v1 st ∧ Rep K H v2 dd ∧ Rep K H v3 cd ∧ Rep K H v4 rd ∧ ArgOk st dd cd rd ∧
    (∀ k, badArg st dd cd rd = some k → Φ os (.d (.tup [.str "wrong", .int k]))) ∧ (badArg st dd cd rd = none → ∀ a b c d : V, Φ os (.tup [.d (.str "told"), .v a, .v b, .v c, .v d]))) : wR K I (fun vs H Q => spHeard K vs H Q E0) ts os Φ := fun F H vs Q n r c => by
  obtain ⟨v1, v2, v3, v4, st, dd, cd, rd, rfl, h1, h2, h3, h4, ok, hw, ht⟩ := hd F H vs n r
  refine ⟨v1, v2, v3, v4, st, dd, cd, rd, rfl, h1, h2, h3, h4, ok, fun t H' s k1 k2 => ?_⟩
  have m := n.grow s
  cases q : badArg st dd cd rd with
  | some k =>
    obtain ⟨F1, m1, _, f1⟩ := m.now.tup (k1 k q)
    exact c os _ _ F1 H' (hw k q) (m.trans m1) ⟨t, _, rfl, f1, _, _, rfl, rfl, _, _, rfl, rfl, rfl⟩
  | none =>
    obtain ⟨r, e, l⟩ := k2 q
    obtain ⟨F1, m1, _, f1⟩ := m.now.tup e
    match r, l with
    | [a, b, c', d], _ => exact c os _ _ F1 H' (ht q a b c' d) (m.trans m1) ⟨t, _, rfl, f1, _, _, rfl, rfl, _, _, rfl, rfl, _, _, rfl, rfl, _, _, rfl, rfl, _, _, rfl, rfl, rfl⟩
theorem wR_heard {x1 x2 x3 x4 : Tr} {st dd cd rd : Dat} (h1 : DatAt K os x1 st) (h2 : DatAt K os x2 dd) (h3 : DatAt K os x3 cd) (h4 : DatAt K os x4 rd) (ok : ArgOk st dd cd rd)
    (hw : ∀ k, badArg st dd cd rd = some k → Φ os (.d (.tup [.str "wrong", .int k]))) (ht : badArg st dd cd rd = none → ∀ a b c d : V, Φ os (.tup [.d (.str "told"), .v a, .v b, .v c, .v d])) : wR K I (fun vs H Q => spHeard K vs H Q E0) [x1, x2, x3, x4] os Φ :=
  wR_heardG fun F H vs n r => by
    obtain ⟨v1, _, rfl, r1, v2, _, rfl, r2, v3, _, rfl, r3, v4, _, rfl, r4, rfl⟩ := r
    exact ⟨v1, v2, v3, v4, st, dd, cd, rd, rfl, h1 _ _ _ _ n r1, h2 _ _ _ _ n r2, h3 _ _ _ _ n r3, h4 _ _ _ _ n r4, ok, hw, ht⟩
/-- Gate(..) of good parts, whatever holds them -/
theorem wE_makeGate {tr : TA} (hl : I.lk = []) (h : wA K I tr Γ os fun os1 ts => ∃ (n : Int) (x2 x3 x4 : Tr) (us ws : List Str) (rs : List Rl), ts = [.d (.int n), x2, x3, x4] ∧ DatAt K os1 x2 (.lst (us.map .str)) ∧ DatAt K os1 x3 (.lst (ws.map .str)) ∧ DatAt K os1 x4 (.lst (rs.map Rl.dat)) ∧ WfG n us ws rs ∧ Φ os1 (GateTr C n us ws rs)) :
    wE K I (tMake C (spInit K C) [] E0 tr) Γ os Φ := fun σ F H Q n0 e c => by
  refine h σ F H _ n0 e fun os1 ts vs F1 H1 h1 m1 r1 => ?_
  obtain ⟨n, x2, x3, x4, us, ws, rs, rfl, d2, d3, d4, wf, h1⟩ := h1
  obtain ⟨v1, _, rfl, e1, v2, _, rfl, e2, v3, _, rfl, e3, v4, _, rfl, e4, rfl⟩ := r1
  cases (show v1 = .int n from e1)
  intro x dx nx ndx ne
  have sG : Same H1 (upd (upd H1 dx (.own x)) x (.ins C dx [])) := fun y o e => by
    rw [upd_ne (ne_of_none e nx), upd_ne (ne_of_none e ndx)]
    exact e
  refine ⟨x, dx, n, v2, v3, v4, us, ws, rs, H1, H1, rfl, upd_same, .refl H1, sG, nx, .inl (d2 _ _ _ _ m1.now e2), .inl (d3 _ _ _ _ m1.now e3), .inl (d4 _ _ _ _ m1.now e4), wf.n1, wf.n64, wf.nd, wf.nc, wf.dn, wf.ok, wf.ks, Nat.le_trans wf.rl (by decide), fun H' sH gn => ⟨rfl, ?_⟩⟩
  obtain ⟨dx', d, cc, r, kvs, us', ws', q1, q2, q3, q4, q5, q6, q7, q8, z1, z2, z3, z4, z5⟩ := gn.ex
  obtain ⟨F2, m2, tf⟩ := m1.now.tuply
  have rr : RepAll K F2 (kvs.map (·.2)) (rs.map Rl.dat) := Wp.RepAll.tups tf _ (rls_tonly rs) q8
  have sub2 : Same F2 H1 := by have := m2.now.sub; rw [hl] at this; exact this.same
  let F3 : Hp := fun y => if y = x ∨ y = d ∨ y = cc ∨ y = r then H' y else F2 y
  have non : ∀ y, (y = x ∨ y = d ∨ y = cc ∨ y = r) → H1 y = none := fun y hy => by rcases hy with rfl | rfl | rfl | rfl <;> assumption
  have s3 : Same F2 F3 := fun y o ey => by
    show (if y = x ∨ y = d ∨ y = cc ∨ y = r then H' y else F2 y) = _
    rw [if_neg fun z => by have := sub2 _ _ ey; rw [non y z] at this; cases this]
    exact ey
  have at3 : ∀ y, (y = x ∨ y = d ∨ y = cc ∨ y = r) → F3 y = H' y := fun y hy => if_pos hy
  have m3 := m2.now.ext (F1 := F3) (H1 := H') s3 (fun y o ey => ?_) sH (fun y o ey => ?_)
  · refine c _ _ _ _ _ h1 ((m1.trans m2).trans m3) (of_gate ⟨dx', d, cc, r, kvs, us', ws', ?_, ?_, ?_, ?_, q5, q6, q7, RepAll.mono s3 _ rr, z4, z5⟩)
    · rw [at3 _ (.inl rfl)]; exact q1
    · rw [at3 _ (.inr (.inl rfl))]; exact q2
    · rw [at3 _ (.inr (.inr (.inl rfl)))]; exact q3
    · rw [at3 _ (.inr (.inr (.inr rfl)))]; exact q4
  · have ey : (if y = x ∨ y = d ∨ y = cc ∨ y = r then H' y else F2 y) = some o := ey
    split at ey
    · exact .inl ey
    · exact .inl (sH _ _ (sub2 _ _ ey))
  · have ey : (if y = x ∨ y = d ∨ y = cc ∨ y = r then H' y else F2 y) = some o := ey
    split at ey
    · rename_i z; exact .inr (.inl (non y z))
    · exact .inl ey
/-! what a Gate answers -/
theorem gate_at {n : Int} {ds cs : List Str} {rs : List Rl} {F H : Hp} {v : V} (hl : I.lk = []) (nw : Now K I F H os) (r : RepT K F v (GateTr C n ds cs rs)) : ∃ x, v = .ref x ∧ GateAt K C H x n ds cs rs := by
  obtain ⟨x, rfl, g⟩ := gate_of r
  have sub : Same F H := by have := nw.sub; rw [hl] at this; exact this.same
  exact ⟨x, rfl, g.mono sub⟩
theorem wR_states {n : Int} {ds cs : List Str} {rs : List Rl} (hl : I.lk = []) (h : Φ os (.d (.int n))) : wR K I (fun vs H Q => spStates K C vs H Q E0) [GateTr C n ds cs rs] os Φ := fun F H vs Q nw r c => by
  obtain ⟨v, _, rfl, rv, rfl⟩ := r
  obtain ⟨x, rfl, g⟩ := gate_at hl nw rv
  exact ⟨x, n, ds, cs, rs, rfl, g, c os _ _ F H h nw.self rfl⟩
theorem wR_doors {n : Int} {ds cs : List Str} {rs : List Rl} (hl : I.lk = []) (h : ∀ p, Φ (os ++ [(p, .lst ((sortS ds).map fun w => .d (.str w)))]) (.v (.ref p))) : wR K I (fun vs H Q => spDoors K C vs H Q E0) [GateTr C n ds cs rs] os Φ := fun F H vs Q nw r c => by
  obtain ⟨v, _, rfl, rv, rfl⟩ := r
  obtain ⟨x, rfl, g⟩ := gate_at hl nw rv
  refine ⟨x, n, ds, cs, rs, rfl, g, fun p us hp e => ?_⟩
  rw [← sortS_eq e]
  refine Wp.own_lst nw hp ?_ c (h p)
  rw [show ((sortS ds).map fun w => Tr.d (.str w)) = ((sortS ds).map Dat.str).map .d from by rw [List.map_map]; rfl]
  exact .of (RepAll.of_strs _)
theorem wR_closet {n : Int} {ds cs : List Str} {rs : List Rl} (hl : I.lk = []) (h : ∀ p, Φ (os ++ [(p, .lst ((sortS cs).map fun w => .d (.str w)))]) (.v (.ref p))) : wR K I (fun vs H Q => spCloset K C vs H Q E0) [GateTr C n ds cs rs] os Φ := fun F H vs Q nw r c => by
  obtain ⟨v, _, rfl, rv, rfl⟩ := r
  obtain ⟨x, rfl, g⟩ := gate_at hl nw rv
  refine ⟨x, n, ds, cs, rs, rfl, g, fun p us hp e => ?_⟩
  rw [← sortS_eq e]
  refine Wp.own_lst nw hp ?_ c (h p)
  rw [show ((sortS cs).map fun w => Tr.d (.str w)) = ((sortS cs).map Dat.str).map .d from by rw [List.map_map]; rfl]
  exact .of (RepAll.of_strs _)
theorem wR_rules {n : Int} {ds cs : List Str} {rs : List Rl} (hl : I.lk = []) (h : ∀ p, Φ (os ++ [(p, .lst ((sortD (rs.map Rl.dat)).map .d))]) (.v (.ref p))) : wR K I (fun vs H Q => spRules K C vs H Q E0) [GateTr C n ds cs rs] os Φ := fun F H vs Q nw r c => by
  obtain ⟨v, _, rfl, rv, rfl⟩ := r
  obtain ⟨x, rfl, g⟩ := gate_at hl nw rv
  refine ⟨x, n, ds, cs, rs, rfl, g, fun p ys H' hp s e rr => ?_⟩
  -- the heap without p
  let H0 : Hp := fun y => if y = p then none else H' y
  have s0 : Same H H0 := fun y o ey => by
    show (if y = p then none else H' y) = _
    rw [if_neg (ne_of_none ey hp)]; exact s _ _ ey
  have m0 := nw.grow s0
  obtain ⟨F1, m1, tf⟩ := m0.now.tuply
  have p0 : H0 p = none := if_pos rfl
  have eH : upd H0 p (.lst ys) = H' := by
    funext y
    by_cases z : y = p
    · subst z; rw [upd_same]; exact e.symm
    · rw [upd_ne z]; exact if_neg z
  obtain ⟨rs', e', _⟩ := perm_map (show (sortD (rs.map Rl.dat)).Perm (rs.map Rl.dat) from List.mergeSort_perm _ _) rs rfl
  have rr2 : RepAll K F1 ys (sortD (rs.map Rl.dat)) := by
    rw [e'] at rr ⊢
    exact Wp.RepAll.tups (fun a xs ea => tf a xs (s0 _ _ ea)) _ (rls_tonly rs') rr
  have := Wp.own_lst (Q := Q) m1.now p0 (.of rr2) (c.step (m0.trans m1)) (h p)
  rw [eH] at this
  exact this
theorem wO_eqG {n n' : Int} {ds cs ds' cs' : List Str} {rs rs' : List Rl} (hl : I.lk = []) (oC : OwnC K C) (w1 : WfG n ds cs rs) (w2 : WfG n' ds' cs' rs') (h : Φ os (.d (.bl (sameG n ds cs rs n' ds' cs' rs')))) :
    wO K I (rEqO K C (spEq K C)) (GateTr C n ds cs rs) (GateTr C n' ds' cs' rs') os Φ := fun F H v u Q nw r s c => by
  obtain ⟨x, rfl, g⟩ := gate_at hl nw r
  obtain ⟨x', rfl, g'⟩ := gate_at hl nw s
  obtain ⟨dx, _, _, _, _, _, _, h1, _⟩ := id g.ex
  obtain ⟨dx', _, _, _, _, _, _, h1', _⟩ := id g'.ex
  exact ⟨x, dx, _, .obj C x', rfl, h1, ⟨rfl, oC, dx', _, h1'⟩, .inr ⟨x', rfl⟩, x, n, ds, cs, rs, _, rfl, g, .inr ⟨x', n', ds', cs', rs', rfl, g', txt_of_names w1.nd, txt_of_names w1.nc, txt_of_names w2.nd, txt_of_names w2.nc,
    fun a ha => (plain_rule (w1.ok a ha) w1.nd w1.nc).2.1, fun a ha => (plain_rule (w2.ok a ha) w2.nd w2.nc).2.1, _, rfl, c os _ _ F H h nw.self rfl⟩⟩
theorem wO_neG {n n' : Int} {ds cs ds' cs' : List Str} {rs rs' : List Rl} (hl : I.lk = []) (w1 : WfG n ds cs rs) (w2 : WfG n' ds' cs' rs') (h : Φ os (.d (.bl (!sameG n ds cs rs n' ds' cs' rs')))) :
    wO K I (rNeO C (spEq K C)) (GateTr C n ds cs rs) (GateTr C n' ds' cs' rs') os Φ := fun F H v u Q nw r s c => by
  obtain ⟨x, rfl, g⟩ := gate_at hl nw r
  obtain ⟨x', rfl, g'⟩ := gate_at hl nw s
  obtain ⟨dx, _, _, _, _, _, _, h1, _⟩ := id g.ex
  obtain ⟨dx', _, _, _, _, _, _, h1', _⟩ := id g'.ex
  exact ⟨x, dx, _, x', dx', _, rfl, h1, rfl, h1', x, n, ds, cs, rs, _, rfl, g, .inr ⟨x', n', ds', cs', rs', rfl, g', txt_of_names w1.nd, txt_of_names w1.nc, txt_of_names w2.nd, txt_of_names w2.nc,
    fun a ha => (plain_rule (w1.ok a ha) w1.nd w1.nc).2.1, fun a ha => (plain_rule (w2.ok a ha) w2.nd w2.nc).2.1, _, rfl, c os _ _ F H h nw.self rfl⟩⟩
theorem wO_eqGd {n : Int} {ds cs : List Str} {rs : List Rl} {d : Dat} (hl : I.lk = []) (pu : d.pure = true) (kt : PySem.W.kitOne K d.ty (.ref C) = some false) (h : Φ os (.d (.bl false))) :
    wO K I (rEqO K C (spEq K C)) (GateTr C n ds cs rs) (.d d) os Φ := fun F H v u Q nw r s c => by
  obtain ⟨x, rfl, g⟩ := gate_at hl nw r
  obtain ⟨dx, _, _, _, _, _, _, h1, _⟩ := id g.ex
  have rd := Wp.Rep.sub nw.sub d s
  exact ⟨x, dx, _, d, rfl, h1, rd, .inl pu, x, n, ds, cs, rs, _, rfl, g, .inl ⟨d, rd, kt, _, rfl, c os _ _ F H h nw.self rfl⟩⟩
end
end K

set_option Elab.async false
set_option linter.all false
set_option maxRecDepth 100000
set_option maxHeartbeats 16000000
namespace K
open PySem PySem.Spec PyProof.Rows L2 G D L S C Sx Kx Ex Lt Qe De Er Ne
open Fz hiding Fr
open C8 (pss_cut tCut)
open PySem.W (dataLt alike AllAlike Sortable)
open Wp (Tr RepT RepTs spW TF Wo Stp Os Now Nxt DatAt wR wO wE wA)
def spLaw (K : PySem.W.Frag) : Sp := fun vs H Q _ => ∃ (a : Addr) (ns : List Int), vs = [.ref a] ∧ SqL K H a (ns.map V.int) ∧ ns.length ≤ 63 ∧ ∀ H', Q (.bl true) H'
theorem fr_start {H : Hp} {b l : Addr} (h : BagL H b l) : Fz.Fr (fun y => if y = b then none else H y) H b := by
  have lb : l ≠ b := fun z => by
    obtain ⟨c0, c1, c2, ms, h1, h2, _⟩ := h
    rw [z, h1] at h2
    have q := HO.lst.inj (Option.some.inj h2)
    have : V.ref l ∈ ms.map V.int := by rw [← q]; simp
    obtain ⟨m, _, e⟩ := List.mem_map.mp this
    cases e
  refine ⟨fun y o e => ?_, if_pos rfl, l, ?_⟩
  · by_cases q : y = b
    · rw [if_pos q] at e
      cases e
    · rw [if_neg q] at e
      exact e
  · obtain ⟨c0, c1, c2, ms, h1, h2, r⟩ := h
    exact ⟨_, ⟨c0, c1, c2, ms, h1, h2, r⟩, by rw [if_neg lb]; exact h2⟩
theorem cut_str (nm : List Str) (lo hi : Option Int) : ∃ cs : List Str, Wp.cutD (nm.map .str) lo hi = cs.map .str ∧ cs.Sublist nm ∧ cs.length = (Wp.cutD (nm.map .str) lo hi).length := by
  refine ⟨(nm.drop (HT.sIx nm.length 0 lo)).take (HT.sIx nm.length nm.length hi - HT.sIx nm.length 0 lo), ?_, (List.take_sublist _ _).trans (List.drop_sublist _ _), ?_⟩
  · unfold Wp.cutD
    rw [List.length_map, List.map_take, List.map_drop]
  · unfold Wp.cutD
    rw [List.length_map, List.length_take, List.length_take, List.length_drop, List.length_drop, List.length_map]
theorem names_sub {nm cs : List Str} (h : cs.Sublist nm) (nd : nm.Nodup) (l : nm.length = 16) (ok : ∀ w ∈ nm, nameOk w = true) : Names cs := ⟨nd.sublist h, fun w hw => ok w (h.mem hw), Nat.le_trans h.length_le (by omega)⟩
theorem fine_names {ws : List Str} (h : Names ws) (l : ws.length ≤ 100) : Fine 9 70000 (.lst (ws.map .str)) :=
  (fine_lst (m := 100) (k := 8) (n := 600) (fun d hd => by
    obtain ⟨w, hw, rfl⟩ := List.mem_map.mp hd
    exact (el_tx (tx_name (h.ok w hw))).fi) (by rw [List.length_map]; exact l)).mono (by decide) (by decide)
theorem fine_rules {n : Int} {ds cs : List Str} {rs : List Rl} (wf : WfG n ds cs rs) : Fine 10 400000 (.lst (rs.map Rl.dat)) :=
  (fine_lst (m := 100) (k := 9) (n := 3700) (fun d hd => by
    obtain ⟨r, hr, rfl⟩ := List.mem_map.mp hd
    exact (fine_tup (m := 6) (k := 8) (n := 600) (fun e he => (rule_els wf hr e he).fi) (Nat.le_refl 6)).mono (by decide) (by decide)) (by rw [List.length_map]; exact wf.rl)).mono (by decide) (by decide)
theorem WfG.perm {n : Int} {ds cs us ws : List Str} {rs qs : List Rl} (wf : WfG n ds cs rs) (p1 : us.Perm ds) (p2 : ws.Perm cs) (p3 : qs.Perm rs) : WfG n us ws qs := by
  refine ⟨wf.n1, wf.n64, wf.nd.perm p1, wf.nc.perm p2, fun z => wf.dn (List.length_eq_zero_iff.mp (by rw [← p1.length_eq, z]; rfl)), by rw [p2.length_eq]; exact wf.lc, fun r hr => ?_, fun r hr => wf.tl r (p3.mem_iff.mp hr), (p3.map Rl.key).nodup_iff.mpr wf.ks, by rw [p3.length_eq]; exact wf.rl⟩
  have o := wf.ok r (p3.mem_iff.mp hr)
  refine ⟨p1.mem_iff.mpr o.door, o.s0, o.s1, ?_, o.l0, o.l1, fun z => ⟨(o.told0 z).1, fun w hw => ?_⟩, fun w hw => ?_, o.len⟩
  · rcases List.mem_append.mp o.kind with h | h
    · exact List.mem_append_left _ (p2.mem_iff.mpr h)
    · exact List.mem_append_right _ h
  · rcases List.mem_append.mp ((o.told0 z).2 w hw) with h | h
    · exact List.mem_append_left _ (p2.mem_iff.mpr h)
    · exact List.mem_append_right _ h
  · rcases List.mem_append.mp (o.told1 w hw) with h | h
    · exact List.mem_append_left _ (p2.mem_iff.mpr h)
    · exact List.mem_append_right _ h
theorem can_all {ds : List Dat} (h : ∀ d ∈ ds, d.py.canLay0 = true) : PyData.canLayAll0 (pyAll ds) = true := by
  induction ds with
  | nil => rfl
  | cons d ds ih =>
    show (d.py.canLay0 && PyData.canLayAll0 (pyAll ds)) = true
    rw [h d List.mem_cons_self, ih fun e he => h e (List.mem_cons_of_mem _ he)]
    rfl
/-- the answer that is due -/
abbrev dueD (n : Int) (us ws : List Str) (rs : List Rl) : Dat := .tup [.str "told", .int n, .lst (us.map .str), .lst (ws.map .str), .lst (sortD (rs.map Rl.dat))]
theorem sorted_rl (rs : List Rl) : ∃ qs : List Rl, sortD (rs.map Rl.dat) = qs.map Rl.dat ∧ qs.Perm rs := perm_map (show (sortD (rs.map Rl.dat)).Perm (rs.map Rl.dat) from List.mergeSort_perm _ _) rs rfl
theorem due_ok {n : Int} {us ws : List Str} {rs : List Rl} (wf : WfG n us ws rs) (lu : us.length ≤ 100) : (dueD n us ws rs).py.canLay0 = true ∧ Fine 40 sizeLine (dueD n us ws rs) ∧ (dueD n us ws rs).pure = true := by
  obtain ⟨qs, eq, pq⟩ := sorted_rl rs
  have wq := wf.perm (.refl _) (.refl _) pq
  have f : Fine 40 sizeLine (dueD n us ws rs) := by
    refine (fine_tup (m := 5) (k := 10) (n := 400000) (fun d hd => ?_) (by simp)).mono (by decide) (by decide)
    simp only [List.mem_cons, List.not_mem_nil, or_false] at hd
    rcases hd with rfl | rfl | rfl | rfl | rfl
    · exact fine_of (by decide +kernel)
    · exact (el_n wf.n1 wf.n64).fi.mono (by decide) (by decide)
    · exact (fine_names wf.nd lu).mono (by decide) (by decide)
    · exact (fine_names wf.nc (Nat.le_trans wf.lc (by decide))).mono (by decide) (by decide)
    · rw [eq]; exact fine_rules wq
  refine ⟨?_, f, f.pu⟩
  show PyData.canLayAll0 (pyAll [.str "told", .int n, .lst (us.map .str), .lst (ws.map .str), .lst (sortD (rs.map Rl.dat))]) = true
  refine can_all fun d hd => ?_
  have hstr : ∀ xs : List Str, Names xs → (Dat.lst (xs.map .str)).py.canLay0 = true := fun xs h => SeqAt.canLay_of_shaped (lay_strs (txt_of_names h))
  simp only [List.mem_cons, List.not_mem_nil, or_false] at hd
  rcases hd with rfl | rfl | rfl | rfl | rfl
  · decide +kernel
  · rfl
  · exact hstr _ wf.nd
  · exact hstr _ wf.nc
  · rw [eq]
    refine can_all fun d hd => ?_
    obtain ⟨r, hr, rfl⟩ := List.mem_map.mp hd
    exact (plain_rule (wq.ok r hr) wf.nd wf.nc).2.1.la
theorem items_rules : ∀ rs : List Rl, ((rs.map Rl.key).zip (rs.map fun r => Tr.d r.restD)).map (fun p => Wp.mkTup [.d (S.keyDat p.1), p.2]) = (rs.map fun r => Dat.tup [r.keyD, r.restD]).map .d
  | [] => rfl
  | r :: rs => by
    rw [List.map_cons, List.map_cons, List.zip_cons_cons, List.map_cons, items_rules rs]
    rfl
theorem pairs_rules (rs : List Rl) : Wp.asPairsT ((rs.map fun r => Dat.tup [r.keyD, r.restD]).map .d) = some (rs.map fun x => (x.key, Tr.d x.restD)) := by
  rw [List.map_map]
  exact Wp.asPairsT_map Rl.key Rl.restD rs
theorem gate_mk {n : Int} {ds cs : List Str} {rs : List Rl} : Wp.mkK (gP (.d (.int n)) (.d (.lst (ds.map .str))) (.d (.lst (cs.map .str))) (.dT (rs.map Rl.key) (rs.map fun r => .d r.restD))) = gateTr n ds cs rs := rfl
/-- a rule that tells one word more -/
def Rl.loud (r : Rl) : Rl := { r with told := r.told ++ (["+kept"] : List Str) }
def loudIn (r : Rl) (rs : List Rl) : List Rl := rs.map fun x => if x.key = r.key then r.loud else x
theorem loud_key (r : Rl) : r.loud.key = r.key := rfl
theorem loud_keys (r : Rl) (rs : List Rl) : (loudIn r rs).map Rl.key = rs.map Rl.key := by
  unfold loudIn
  rw [List.map_map]
  refine List.map_congr_left fun x _ => ?_
  show Rl.key (if x.key = r.key then r.loud else x) = x.key
  split
  · rename_i h; rw [loud_key, h]
  · rfl
theorem loud_mem {r x : Rl} {rs : List Rl} (h : x ∈ loudIn r rs) : x = r.loud ∨ x ∈ rs := by
  obtain ⟨y, hy, e⟩ := List.mem_map.mp h
  by_cases z : y.key = r.key
  · rw [if_pos z] at e; exact .inl e.symm
  · rw [if_neg z] at e; exact .inr (e ▸ hy)
theorem loud_wf {n : Int} {ds cs : List Str} {rs : List Rl} {r : Rl} (wf : WfG n ds cs rs) (hr : r ∈ rs) (l3 : r.told.length ≤ 3) : WfG n ds cs (loudIn r rs) ∧ Dif n ds cs rs n ds cs (loudIn r rs) := by
  have o := wf.ok r hr
  have ok : r.loud.Ok n ds cs := by
    refine ⟨o.door, o.s0, o.s1, o.kind, o.l0, o.l1, fun z => ⟨(o.told0 z).1, fun w hw => ?_⟩, fun w hw => ?_, by show (r.told ++ _).length ≤ 1000; rw [List.length_append]; show _ + 1 ≤ _; omega⟩
    · rcases List.mem_append.mp hw with h | h
      · exact (o.told0 z).2 w h
      · exact List.mem_append_right _ h
    · rcases List.mem_append.mp hw with h | h
      · exact o.told1 w h
      · refine List.mem_append_right _ ?_
        rw [List.mem_singleton] at h
        rw [h]; exact List.mem_cons_self
  refine ⟨⟨wf.n1, wf.n64, wf.nd, wf.nc, wf.dn, wf.lc, fun x hx => ?_, fun x hx => ?_, by rw [loud_keys]; exact wf.ks, by unfold loudIn; rw [List.length_map]; exact wf.rl⟩, ?_⟩
  · rcases loud_mem hx with rfl | h
    · exact ok
    · exact wf.ok x h
  · rcases loud_mem hx with rfl | h
    · show (r.told ++ _).length ≤ 4; rw [List.length_append]; show _ + 1 ≤ _; omega
    · exact wf.tl x h
  · rintro ⟨_, _, _, p⟩
    have h1 : r.loud ∈ loudIn r rs := List.mem_map.mpr ⟨r, hr, if_pos rfl⟩
    have h2 := key_one wf.ks hr (p.mem_iff.mpr h1) (loud_key r)
    have h3 : (r.told ++ (["+kept"] : List Str)).length = r.told.length := congrArg (fun x : Rl => x.told.length) h2
    rw [List.length_append] at h3
    have : r.told.length + 1 = r.told.length := h3
    omega
theorem mk_loud {rs : List Rl} {r : Rl} (nd : (rs.map Rl.key).Nodup) (hr : r ∈ rs) : Wp.mkT (Wp.mergeP [] ((rs ++ [r.loud]).map fun x => (x.key, Tr.d x.restD))) = .dT ((loudIn r rs).map Rl.key) ((loudIn r rs).map fun r => .d r.restD) := by
  have e : Wp.mergeP [] ((rs ++ [r.loud]).map fun x => (x.key, Tr.d x.restD)) = (loudIn r rs).map fun x => (x.key, Tr.d x.restD) := by
    have e0 : Wp.mergeP [] (rs.map fun x => (x.key, Tr.d x.restD)) = rs.map fun x => (x.key, Tr.d x.restD) := by rw [Wp.mergeP_nd (by rw [List.nil_append, List.map_map]; exact nd), List.nil_append]
    rw [List.map_append, merge_app, e0]
    show Wp.putP _ r.loud.key (Tr.d r.loud.restD) = _
    unfold Wp.putP
    rw [if_pos (List.any_eq_true.mpr ⟨(r.key, Tr.d r.restD), List.mem_map.mpr ⟨r, hr, rfl⟩, by show decide (r.key = r.loud.key) = true; exact decide_eq_true rfl⟩)]
    unfold loudIn
    rw [List.map_map, List.map_map]
    refine List.map_congr_left fun x _ => ?_
    show (if x.key = r.loud.key then (x.key, Tr.d r.loud.restD) else (x.key, Tr.d x.restD)) = (Rl.key (if x.key = r.key then r.loud else x), Tr.d (Rl.restD (if x.key = r.key then r.loud else x)))
    rw [loud_key]
    split
    · rename_i h; rw [loud_key, h]
    · rfl
  rw [e]
  unfold Wp.mkT
  rw [List.map_map, List.map_map]
  rfl
theorem loud_rest (r : Rl) : Dat.tup [.int r.later, .bl r.keeps, .tup (r.told.map Dat.str ++ [.str "+kept"])] = r.loud.restD := by
  show _ = Dat.tup [.int r.later, .bl r.keeps, .tup ((r.told ++ (["+kept"] : List Str)).map Dat.str)]
  rw [List.map_append]
  rfl
theorem pairs_loud (rs : List Rl) (r : Rl) : Wp.asPairsT ((rs.map (fun r => Dat.tup [r.keyD, r.restD]) ++ [Dat.tup [r.keyD, r.loud.restD]]).map .d) = some ((rs ++ [r.loud]).map fun x => (x.key, Tr.d x.restD)) := by
  rw [show rs.map (fun r => Dat.tup [r.keyD, r.restD]) ++ [Dat.tup [r.keyD, r.loud.restD]] = (rs ++ [r.loud]).map fun r => Dat.tup [r.keyD, r.restD] from by rw [List.map_append]; rfl]
  exact pairs_rules _
theorem wf_more {n : Int} {ds cs : List Str} {rs : List Rl} (wf : WfG n ds cs rs) (h : n < 64) : WfG (n + 1) ds cs rs ∧ Dif n ds cs rs (n + 1) ds cs rs := by
  have := wf.n1
  refine ⟨⟨by omega, by omega, wf.nd, wf.nc, wf.dn, wf.lc, fun r hr => ?_, wf.tl, wf.ks, wf.rl⟩, fun z => by have := z.1; omega⟩
  have o := wf.ok r hr
  have := o.s1
  have := o.l1
  exact ⟨o.door, o.s0, by omega, o.kind, o.l0, by omega, o.told0, o.told1, o.len⟩
theorem names_ext {ds us : List Str} (h : Names ds) (l : ds.length ≤ 900) (x : ("extra" : Str) ∉ ds) (p : us.Perm (ds ++ (["extra"] : List Str))) : Names us := by
  refine (⟨?_, fun w hw => ?_, by rw [List.length_append]; show _ + 1 ≤ _; omega⟩ : Names (ds ++ (["extra"] : List Str))).perm p
  · refine List.nodup_append.mpr ⟨h.nd, by simp, fun a ha b hb z => ?_⟩
    rw [List.mem_singleton] at hb
    exact x (by rw [← hb, ← z]; exact ha)
  · rcases List.mem_append.mp hw with h1 | h1
    · exact h.ok w h1
    · rw [List.mem_singleton] at h1
      rw [h1]; decide +kernel
theorem wf_wide {n : Int} {ds cs us : List Str} {rs : List Rl} (wf : WfG n ds cs rs) (l : ds.length ≤ 900) (x : ("extra" : Str) ∉ ds) (p : us.Perm (ds ++ (["extra"] : List Str))) : WfG n us cs rs ∧ Dif n ds cs rs n us cs rs := by
  refine ⟨⟨wf.n1, wf.n64, names_ext wf.nd l x p, wf.nc, fun z => ?_, wf.lc, fun r hr => ?_, wf.tl, wf.ks, wf.rl⟩, fun z => ?_⟩
  · have := p.length_eq
    rw [z, List.length_append] at this
    exact absurd this (by show ¬ (0 = _ + 1); omega)
  · have o := wf.ok r hr
    exact ⟨p.mem_iff.mpr (List.mem_append_left _ o.door), o.s0, o.s1, o.kind, o.l0, o.l1, o.told0, o.told1, o.len⟩
  · have := (sortS_mem z.2.1).length_eq
    rw [p.length_eq, List.length_append] at this
    have : ds.length = ds.length + 1 := this
    omega
theorem wf_known {n : Int} {ds cs us : List Str} {rs : List Rl} (wf : WfG n ds cs rs) (l : cs.length ≤ 15) (x : ("extra" : Str) ∉ cs) (p : us.Perm (cs ++ (["extra"] : List Str))) : WfG n ds us rs ∧ Dif n ds cs rs n ds us rs := by
  have up : ∀ {w : Str}, w ∈ cs → w ∈ us := fun h => p.mem_iff.mpr (List.mem_append_left _ h)
  refine ⟨⟨wf.n1, wf.n64, wf.nd, names_ext wf.nc (by omega) x p, wf.dn, by rw [p.length_eq, List.length_append]; show _ + 1 ≤ _; omega, fun r hr => ?_, wf.tl, wf.ks, wf.rl⟩, fun z => ?_⟩
  · have o := wf.ok r hr
    refine ⟨o.door, o.s0, o.s1, ?_, o.l0, o.l1, fun z => ⟨(o.told0 z).1, fun w hw => ?_⟩, fun w hw => ?_, o.len⟩
    · rcases List.mem_append.mp o.kind with h | h
      · exact List.mem_append_left _ (up h)
      · exact List.mem_append_right _ h
    · rcases List.mem_append.mp ((o.told0 z).2 w hw) with h | h
      · exact List.mem_append_left _ (up h)
      · exact List.mem_append_right _ h
    · rcases List.mem_append.mp (o.told1 w hw) with h | h
      · exact List.mem_append_left _ (up h)
      · exact List.mem_append_right _ h
  · have := (sortS_mem z.2.2.1).length_eq
    rw [p.length_eq, List.length_append] at this
    have : cs.length = cs.length + 1 := this
    omega
theorem mem_repT {d x : Tr} {b : Bool} (h : d ∈ (List.replicate (if b = true then (1 : Int) else 0).toNat [x]).flatten) : b = true ∧ d = x := by
  cases b <;> simp at h
  exact ⟨rfl, h⟩
theorem pure_mem : ∀ {ds : List Dat}, pureAll ds = true → ∀ d ∈ ds, d.pure = true
  | e :: ds, h, d, hd => by
    have h' : (e.pure && pureAll ds) = true := h
    rw [Bool.and_eq_true] at h'
    rcases List.mem_cons.mp hd with rfl | hd
    · exact h'.1
    · exact pure_mem h'.2 d hd
theorem arg_ok {st dd cd rd : Dat} (w2 : Wd dd) (w3 : Wd cd) (p4 : rd.pure = true) (w4 : Wd rd) : ArgOk st dd cd rd := by
  have two : ∀ {d : Dat}, Wd d → ∀ ds, d = .lst ds ∨ d = .tup ds → ds.length ≤ 1000 ∧ ∀ e ∈ ds, Wd e := fun h ds e => by
    rcases e with rfl | rfl
    · exact wd_lst h
    · exact wd_tup h
  refine ⟨w2, fun ds e => (two w2 ds e).1, w3, fun ds e => (two w3 ds e).1, fun _ ds e => ⟨(two w4 ds e).1, fun d hd => ⟨⟨?_, (two w4 ds e).2 d hd⟩, fun xs ex ts ht => ?_⟩⟩⟩
  · have : pureAll ds = true := by rcases e with rfl | rfl <;> exact p4
    exact pure_mem this d hd
  · have wd := (two w4 ds e).2 d hd
    subst ex
    exact (wd_tup ((wd_tup wd).2 _ ht)).1
theorem bad_small {st dd cd rd : Dat} {k : Int} (h : badArg st dd cd rd = some k) : 0 ≤ k ∧ k < 64 := by
  unfold badArg headBad at h
  split at h
  · rename_i j hj
    cases h
    split at hj
    · cases hj; decide
    · split at hj
      · cases hj; decide
      · split at hj
        · cases hj; decide
        · cases hj
  · split at h
    · cases h
    · cases h; decide
theorem arg_bad {st dd cd rd : Dat} {k : Int} (w2 : Wd dd) (w3 : Wd cd) (h : headBad st dd cd = some k) : ArgOk st dd cd rd := by
  have two : ∀ {d : Dat}, Wd d → ∀ ds, d = .lst ds ∨ d = .tup ds → ds.length ≤ 1000 := fun h ds e => by
    rcases e with rfl | rfl
    · exact (wd_lst h).1
    · exact (wd_tup h).1
  exact ⟨w2, two w2, w3, two w3, fun z => by rw [h] at z; cases z⟩
theorem gate_obj {K : PySem.W.Frag} {I : Wp.Ini} {os : Os} {F H : Hp} {v : V} {C : Addr} {n : Int} {ds cs : List Str} {rs : List Rl} (hl : I.lk = []) (oC : OwnC K C) (nw : Now K I F H os) (r : RepT K F v (GateTr C n ds cs rs)) : ∃ x, Rep K H v (.obj C x) := by
  obtain ⟨x, rfl, g⟩ := gate_at hl nw r
  obtain ⟨dx, _, _, _, _, _, _, h1, _⟩ := id g.ex
  exact ⟨x, rfl, oC, dx, _, h1⟩
theorem gate_objL {K : PySem.W.Frag} {I : Wp.Ini} {os : Os} {F H : Hp} {v : V} {C : Addr} {n : Int} {ds cs : List Str} {rs : List Rl} (hl : I.lk = []) (oC : OwnC K C) (nw : Now K I F H os) (r : RepT K F v (Wp.mkLst [GateTr C n ds cs rs])) : ∃ x, Rep K H v (.lst [.obj C x]) := by
  obtain ⟨a, xs, rfl, ea, rx⟩ := (Wp.SeqL.frozen (os := os) (Wp.asL_mk _)).at nw r
  obtain ⟨w, _, rfl, rw', rfl⟩ := rx
  obtain ⟨x, rx⟩ := gate_obj hl oC nw rw'
  exact ⟨x, a, _, rfl, ea, w, _, rfl, rx, rfl⟩
theorem head_two {C x : Addr} {rd : Dat} : headBad (.int 1) (.lst [.str "a"]) (.lst [.obj C x]) = some 2 ∧ badArg (.int 1) (.lst [.str "a"]) (.lst [.obj C x]) rd = some 2 := by
  have h : headBad (.int 1) (.lst [.str "a"]) (.lst [.obj C x]) = some 2 := by
    have e : areNames (.lst [.str "a"]) = true := by decide +kernel
    unfold headBad
    rw [e]
    rfl
  exact ⟨h, by unfold badArg; rw [h]⟩
theorem asPair_mk {s : Str} {t : Tr} : Wp.asPair (Wp.mkTup [.d (.str s), t]) = some (.inr s, t) := by
  unfold Wp.asPair
  rw [Wp.asT_mk]
  rfl
theorem wE_gset {K : PySem.W.Frag} {I : Wp.Ini} {Γ : Wp.Gm} {os : Os} {Φ : Os → Tr → Prop} {s : Str} {te : TE}
    (h : ∃ n us ws rs, Γ[6]? = some (some (gateTr n us ws rs)) ∧ wE K I te Γ os fun os1 t => Φ os1 (Wp.mkK (Wp.mergeP [] (gP (.d (.int n)) (.d (.lst (us.map .str))) (.d (.lst (ws.map .str))) (.dT (rs.map Rl.key) (rs.map fun r => .d r.restD)) ++ [(.inr s, t)])))) :
    wE K I (tCB (fun xs H Q => ∃ (a : Addr) (ps : List Addr) (kvs : List (Key × V)), xs = [.ref a] ∧ L2.SqL K H a (ps.map V.ref) ∧ Paired (fun p kv => SqT K H p [kV kv.1, kv.2]) ps kvs ∧ ∀ p, H p = none → Q (.ref p) (upd H p (.dK (mergeK [] kvs))))
      (tCons (tOp rCat (LiI.tListItems (tVar 6)) (tLst (tCons (tTup (tCons (tC (.str s)) (tCons te tNil))) tNil))) tNil)) Γ os Φ := by
  obtain ⟨n, us, ws, rs, h6, h⟩ := h
  refine Wp.wE_cb (Wp.wA_cons (Wp.wE_op (Wp.wE_items (Wp.wE_var h6 ⟨_, _, rfl, rfl, ?_⟩))))
  refine Wp.wE_lst (Wp.wA_cons (Wp.wE_tup (Wp.wA_cons (Wp.wE_str (Wp.wA_cons (h.weak fun os1 t p => Wp.wA_nil ⟨Wp.len_ok rfl, Wp.wA_nil ⟨Wp.len_ok rfl, ?_⟩⟩))))))
  refine Wp.wO_cat (.frozen (Wp.asL_mk _)) (.frozen (Wp.asL_mk _)) (Nat.le_of_ble_eq_true rfl) (Wp.wA_nil ?_)
  refine Wp.wR_dictP (ps := gP _ _ _ _ ++ [(.inr s, t)]) (.frozen (Wp.asL_mk _)) ?_ p
  show Wp.asPairs [Wp.mkTup [.d (.str "states"), _], Wp.mkTup [.d (.str "doors"), _], Wp.mkTup [.d (.str "closet"), _], Wp.mkTup [.d (.str "rules"), _], Wp.mkTup [.d (.str s), t]] = some _
  simp only [Wp.asPairs, asPair_mk]
  rfl
local macro_rules | `(tactic| walk_at "w1") => `(tactic| first
  | ((with_reducible refine wE_gset ?_); refine ⟨_, _, _, _, rfl, ?_⟩)
  | (with_reducible first
    | refine Wp.wS_seq ?_ | refine Wp.wS_set ?_ | refine Wp.wS_ret ?_ | refine Wp.wS_retN ?_ | refine Wp.wS_drop ?_ | refine Wp.wS_if ?_ | refine Wp.wS_next ?_ | refine Wp.wS_cont ?_ | refine Wp.wS_break ?_ | refine Wp.wS_par ⟨_, _, rfl, ?_⟩
    | refine Wp.wE_itemsT (by assumption) ?_ | refine Wp.wE_op ?_ | refine Wp.wE_un ?_ | refine Wp.wA_nil ?_ | refine Wp.wA_cons ?_ | refine Wp.wA_mix ?_ | refine Wp.wE_cb ?_ | refine Wp.wE_call ?_ | refine Wp.wE_bm0 ?_ | refine Wp.wE_bm ?_
    | refine Wp.wT_test ?_ | refine Wp.wT_b ?_ | refine Wp.wT_not ?_ | refine Wp.wT_and ?_ | refine Wp.wT_or ?_ | refine Wp.wT_yes ?_ | refine Wp.wE_not ?_ | refine Wp.wE_and ?_ | refine Wp.wE_or ?_ | refine Wp.wE_if ?_ | refine Wp.wE_chain ?_
    | refine Wp.wE_sl ?_ | refine Wp.wP_none ?_ | refine Wp.wP_some ?_
    | refine Wp.wE_int ?_ | refine Wp.wE_str ?_ | refine Wp.wE_bl ?_ | refine Wp.wE_non ?_ | refine Wp.wE_ty ?_ | refine Wp.wE_ref ?_ | refine Wp.wE_lit ?_
    | refine Wp.wE_items ?_ | refine Wp.wE_revT ?_
    | refine Wp.wE_tup ?_ | refine Wp.wE_dget ?_ | refine Wp.wS_asg ?_ | refine Wp.wG_set ?_ | refine Wp.wS_for ?_ | refine Wp.wI_list ?_ | refine Wp.wI_tup ?_ | refine Wp.wI_rng1 ?_ | refine Wp.wI_rng2 ?_ | refine Wp.wE_fld ?_ | refine Wp.wE_meth ?_ | refine Wp.wE_prop ?_
    | refine Wp.wR_take (by assumption) (by decide) (by decide) ?_ | refine Wp.wR_draw (by assumption) ?_
    | refine Wp.wG_name ?_ | refine Wp.wGs_nil ?_ | refine Wp.wGs_cons ?_ | refine Wp.wLG_name (by decide) ?_)
  | refine Wp.wE_var rfl ?_
  | refine ⟨_, rfl, ?_⟩
  | refine ⟨Wp.len_ok rfl, ?_⟩
  | dsimp only
  | dsimp only [Wp.wipeG, List.set_cons_zero, List.set_cons_succ, List.cons_append, List.nil_append, List.map_cons, List.map_nil, Wp.mkTup0, Wp.mkTup1, Wp.mkTup2, Wp.mkTup3, Wp.mkTup4, Wp.mkTup5, Wp.mkTup6, Wp.mkLst0, Wp.mkLst1, Wp.mkLst2, Wp.mkLst3, Wp.mkLst4, Wp.mkLst5, Wp.mkLst6, Wp.mkLst7, Wp.mkLst8, Wp.mkLst9, Wp.mkLst10, Wp.mkLst11, Wp.mkLst12, Wp.mkLst13, Wp.mkLst14, Wp.mkLst15, Wp.mkLst16, List.take_succ_cons, List.take_zero, List.drop_succ_cons, List.drop_zero, List.take_nil, List.drop_nil]
  | rw [Wp.mkTup_d] | rw [Wp.mkLst_d] | rw [Wp.mkLst_cut] | rw [Wp.mkLst_app] | rw [Wp.mkLst_rep] | rw [Wp.mkTup_rev] | rw [List.append_nil]
  | refine Wp.wR_listL (Or.inl rfl) ?_ | refine Wp.wO_ixL (Or.inl rfl) rfl ?_ | refine Wp.wO_ixL (Wp.SeqL.own 1 rfl) rfl ?_ | refine Wp.wO_ixL (Wp.SeqL.own 2 rfl) rfl ?_ | refine Wp.wO_ixT rfl rfl ?_ | refine Wp.wO_ixST rfl rfl ?_
  | refine ⟨1, _, _, _, _, rfl, rfl, rfl, rfl, ?_⟩ | refine ⟨2, _, _, _, _, rfl, rfl, rfl, rfl, ?_⟩
  | refine Wp.wO_eqI ?_ | refine Wp.wO_neI ?_ | refine Wp.wO_eqS ?_ | refine Wp.wO_neS ?_
  | refine Wp.wO_intI rfl ?_ | refine Wp.wO_intB rfl ?_
  | refine Wp.wR_int ?_ | refine Wp.wR_intB ?_
  | refine Wp.wO_isB ?_ | refine Wp.wO_notB ?_ | refine Wp.wO_isN ?_ | refine Wp.wO_notN ?_)
local macro_rules | `(tactic| walk_at "w0") => `(tactic| (dsimp only [cxOf, Cx.nox, Cx.wish]; simp only [List.map_cons, List.map_nil, List.length_cons, List.length_nil, Nat.reduceAdd, Nat.reduceSub, List.replicate_succ, List.replicate_zero, List.cons_append, List.nil_append]))
section
variable {P : Program} {w : World} {K : PySem.W.Frag} {mg : Str → Option Value} {base : Heap}
abbrev s_law : Stmt := top 33
theorem sc_law : FnScope ["script", "bag", "turn", "names", "states", "closet", "gate", "due", "doors", "rules", "said", "one", "other", "again", "found", "row", "less", "wide", "more", "known", "key", "rest", "louder", "some", "thing", "k", "place", "heard"] ["script"] (defScope s_law) := ⟨rfl, rfl, rfl, by decide +kernel, rfl, by decide +kernel, by decide +kernel⟩
theorem ok_law {f C fI pS gS fD fC fR : Addr} {fd fdI fdS fdD fdC fdR : FuncData} (F : Fun K "law" "law" s_law f fd) (T : Bl mg) (hM : HasMods base) (gc : GCls K C) (oC : OwnC K C) (hG : mg "Gate" = some (.ref C))
    (MG : Mk K C fI) (GI : Fn P w K mg base CX0 5 fI fdI ["self", "states", "doors", "closet", "rules"] (spInit K C)) (bI : Binds K fdI ["self", "states", "doors", "closet", "rules"] [])
    (P_states : PropOf K C "states" pS gS) (SF : FnOk P w K mg base CX0 1 gS fdS ["self"] (spStates K C)) (b_states : Binds K fdS ["self"] [])
    (M_doors : Meth K C "doors" fD) (DF : Fn P w K mg base CX0 1 fD fdD ["self"] (spDoors K C)) (b_doors : Binds K fdD ["self"] [])
    (M_closet : Meth K C "closet" fC) (CF : Fn P w K mg base CX0 1 fC fdC ["self"] (spCloset K C)) (b_closet : Binds K fdC ["self"] [])
    (M_rules : Meth K C "rules" fR) (RF : Fn P w K mg base CX0 1 fR fdR ["self"] (spRules K C)) (b_rules : Binds K fdR ["self"] [])
    (M_Gate : EqM P w K mg base 2 C ["self", "other"] (spEq K C)) (oN : PySem.W.mroIn K C (.type "object") = some true) (hN : PySem.W.findIn K (.ref C) "__ne__" = some (some (.builtin "object.__ne__")))
    (kT : PySem.W.kitOne K (.type "tuple") (.ref C) = some false) (kN : PySem.W.kitOne K (.type "NoneType") (.ref C) = some false)
    (D_law_bag : Def P w K mg base 2 "_law_bag" ["script"] (spBag K))
    (D_law_take : Def P w K mg base 2 "_law_take" ["bag", "many"] (spW K Wp.tTake))
    (D_law_one : Def P w K mg base 3 "_law_one" ["bag", "things"] (spW K Wp.tOne))
    (D_law_alike : Def P w K mg base 2 "_law_alike" ["found", "due"] (spAlike K))
    (D_law_mixed : Def P w K mg base 3 "_law_mixed" ["bag", "things"] (spW K Wp.tMixed))
    (D_law_menu : Def P w K mg base 4 "_law_menu" ["bag"] (spW K (Wp.tDraw (Gnames 16))))
    (D_law_sorted_rules : Def P w K mg base 2 "_law_sorted_rules" ["gate"] (spW K tSortedRules))
    (D_law_drawn_gate : Def P w K mg base 5 "_law_drawn_gate" ["bag", "states", "doors", "closet", "can_keep"] (spW K tDrawnGate))
    (D_law_gate : Def P w K mg base 7 "_law_gate" ["bag", "gate"] (spW K (tLawGate C)))
    (D_law_rule_otherwise : Def P w K mg base 3 "_law_rule_otherwise" ["gate", "key"] (spW K tOther))
    (D_law_bent : Def P w K mg base 6 "_law_bent" ["bag", "gate"] (spW K tBent))
    (D_law_due : Def P w K mg base 4 "_law_due" ["states", "doors", "closet", "rules"] (spDue K))
    (D_law_heard : Def P w K mg base 7 "_law_heard" ["states", "doors", "closet", "rules"] (spHeard K)) :
    Fn P w K mg base CX0 8 f fd ["script"] (spLaw K) := by
  refine fn_calm F sc_law (fun vs H Q E h => ?_) (fun cdv A outer s H vs Q E hc hr h => ?_)
  · obtain ⟨a, ns, rfl, _⟩ := h
    rfl
  · obtain ⟨a, ns, rfl, hS, hl, k⟩ := h
    have hu := hu_of hr
    have hu64 := hr.units
    have hu110 : (A.deeper (envOfC "law" (defScope s_law) s.heap.objs.size f cdv)).units + 110 < cLine := by
      have := hr.un
      omega
    refine ⟨_, (pss_cons (ps_set (i := 1) sc_law.nd rfl (Or.inr rfl) (pe_def D_law_bag hc (hr.mono (by decide)) (pa_cons (pv 0) pa_nil)))
 (pss_cons (ps_for PassesOwn.never rfl (pi_range1 rfl T.rangeN (pa_cons pe_int pa_nil)) (pg_name (i := 2) sc_law.nd rfl (Or.inl rfl))
  (pss_cons (ps_set (i := 3) sc_law.nd rfl (Or.inl rfl) (pe_def D_law_menu hc (hr.mono (by decide)) (pa_cons (pv 1) pa_nil)))
 (pss_cons (ps_set (i := 4) sc_law.nd rfl (Or.inl rfl) (pe_def D_law_one hc (hr.mono (by decide)) (pa_cons (pv 1) (pa_cons (pe_lit (d := .lst [.int 1, .int 2, .int 3, .int 4, .int 64]) 9 (by rfl) (by rfl)) pa_nil))))
 (pss_cons (ps_set (i := 5) sc_law.nd rfl (Or.inl rfl) (pe_slice sl_list (pv 3) (po_some pe_int) (po_some (pe_op op_add pe_int (pe_def D_law_take hc (hr.mono (by decide)) (pa_cons (pv 1) (pa_cons pe_int pa_nil)))))))
 (pss_cons (ps_set (i := 6) sc_law.nd rfl (Or.inl rfl) (pe_def D_law_drawn_gate hc (hr.mono (by decide)) (pa_cons (pv 1) (pa_cons (pv 4) (pa_cons (pe_slice sl_list (pv 3) po_none (po_some (pe_op op_add pe_int (pe_def D_law_take hc (hr.mono (by decide)) (pa_cons (pv 1) (pa_cons pe_int pa_nil)))))) (pa_cons (pv 5) (pa_cons pe_bl pa_nil)))))))
 (pss_cons (ps_set (i := 7) sc_law.nd rfl (Or.inl rfl) (pe_tup (pa_cons pe_str (pa_cons (pv 4) (pa_cons (pe_dget hu (pv 6) pe_str (fun _ _ => rfl)) (pa_cons (pe_dget hu (pv 6) pe_str (fun _ _ => rfl)) (pa_cons (pe_def D_law_sorted_rules hc (hr.mono (by decide)) (pa_cons (pv 6) pa_nil)) pa_nil)))))))
 (pss_cons (ps_par (i := 8) (j := 9) (by rfl) sc_law.nd rfl rfl (by decide) rfl rfl (pa_cons (pe_def D_law_mixed hc (hr.mono (by decide)) (pa_cons (pv 1) (pa_cons (pe_dget hu (pv 6) pe_str (fun _ _ => rfl)) pa_nil))) (pa_cons (pe_def D_law_mixed hc (hr.mono (by decide)) (pa_cons (pv 1) (pa_cons (pe_def D_law_sorted_rules hc (hr.mono (by decide)) (pa_cons (pv 6) pa_nil)) pa_nil))) pa_nil)) (by rfl))
 (pss_cons (ps_set (i := 3) sc_law.nd rfl (Or.inl rfl) (pe_def D_law_mixed hc (hr.mono (by decide)) (pa_cons (pv 1) (pa_cons (pe_dget hu (pv 6) pe_str (fun _ _ => rfl)) pa_nil))))
 (pss_cons (ps_set (i := 10) sc_law.nd rfl (Or.inl rfl) (pe_callB (call_repr hc hM hu110) (by rfl) T.reprN (by decide +kernel) (pa_cons (pe_lst (pa_cons (pv 8) (pa_cons (pv 3) (pa_cons (pv 9) pa_nil)))) pa_nil)))
 (pss_cons (ps_asg (pe_tup (pa_cons (pe_mk MG GI hc (hr.mono (by decide)) rfl hG bI .nil pass0 (pa_cons (pv 4) (pa_cons (pv 8) (pa_cons (pv 3) (pa_cons (pv 9) pa_nil))))) (pa_cons (pe_def D_law_gate hc (hr.mono (by decide)) (pa_cons (pv 1) (pa_cons (pv 6) pa_nil))) pa_nil))) (pg_tup (by rfl) (pgs_cons (pg_name (i := 11) sc_law.nd rfl (Or.inr rfl)) (pgs_cons (pg_name (i := 12) sc_law.nd rfl (Or.inl rfl)) pgs_nil))))
 (pss_cons (ps_if (pt_cmpR op_ne (pe_callB (call_repr hc hM hu110) (by rfl) T.reprN (by decide +kernel) (pa_cons (pe_lst (pa_cons (pv 8) (pa_cons (pv 3) (pa_cons (pv 9) pa_nil)))) pa_nil)) (pv 10) (nomark _))
  (pss_one (ps_ret pe_bl))
  pss_nil)
 (pss_cons (ps_expr (pe_bm0 PySem.F.plainAttrs_list PySem.F.slot_list_clear PySem.F.type_list_clear mt_clear (pv 8)))
 (pss_cons (ps_expr (pe_bm PySem.F.plainAttrs_list PySem.F.slot_list_append PySem.F.type_list_append mt_append (pv 3) (pa_cons pe_str pa_nil)))
 (pss_cons (ps_expr (pe_bm PySem.F.plainAttrs_list PySem.F.slot_list_append PySem.F.type_list_append mt_append (pv 9) (pa_cons pe_non pa_nil)))
 (pss_cons (ps_for PassesOwn.never rfl (pi_range1 rfl T.rangeN (pa_cons pe_int pa_nil)) (pg_name (i := 13) sc_law.nd rfl (Or.inl rfl))
  (pss_cons (ps_set (i := 14) sc_law.nd rfl (Or.inl rfl) (pe_lst (pa_cons (pe_mth0 (pv 11) gc.cl M_doors DF hc (hr.mono (by decide)) b_doors .nil pass0) (pa_cons (pe_mth0 (pv 11) gc.cl M_closet CF hc (hr.mono (by decide)) b_closet .nil pass0) (pa_cons (pe_mth0 (pv 11) gc.cl M_rules RF hc (hr.mono (by decide)) b_rules .nil pass0) pa_nil)))))
 (pss_cons (ps_if (pt_not (pt_val (pe_def D_law_alike hc (hr.mono (by decide)) (pa_cons (pe_tup (pa_cons pe_str (pa_cons (pe_prop (pv 11) gc.cl P_states SF (hr.mono (by decide)) b_states .nil pass0 (by rfl)) (pa_cons (pe_ix ix_list (pv 14) pe_int (fun _ _ => rfl)) (pa_cons (pe_ix ix_list (pv 14) pe_int (fun _ _ => rfl)) (pa_cons (pe_ix ix_list (pv 14) pe_int (fun _ _ => rfl)) pa_nil)))))) (pa_cons (pv 7) pa_nil)))))
  (pss_one (ps_ret pe_bl))
  pss_nil)
 (pss_one (ps_for PassesOwn.never rfl (pi_list (pv 14)) (pg_name (i := 15) sc_law.nd rfl (Or.inl rfl))
  (pss_one (ps_expr (pe_bm PySem.F.plainAttrs_list PySem.F.slot_list_append PySem.F.type_list_append mt_append (pv 15) (pa_cons pe_str pa_nil)))))))))
 (pss_cons (ps_if (PW.pt (pw_or (pt_cmpR op_isnot_bl (pe_cmpR (op_eqO M_Gate hc (hr.mono (by decide)) rfl) (pv 11) (pv 12) (nomark _)) pe_bl (nomark _)) (pw_or (pt_cmpR op_isnot_bl (pe_cmpR (op_neO M_Gate hc (hr.mono (by decide)) oN hN) (pv 11) (pv 12) (nomark _)) pe_bl (nomark _)) (pw_or (pt_cmpR (op_eqO M_Gate hc (hr.mono (by decide)) rfl) (pv 11) (pv 7) (nomark _)) (pw_or1 (pt_cmpR (op_eqO M_Gate hc (hr.mono (by decide)) rfl) (pv 11) pe_non (nomark _)))))))
  (pss_one (ps_ret pe_bl))
  pss_nil)
 (pss_cons (ps_set (i := 16) sc_law.nd rfl (Or.inl rfl) (pe_callTy (call_dictP rfl) (by rfl) T.dictN (by decide +kernel) (pa_cons (pe_op op_cat (LiI.pe_listItems rfl (pv 6) (by rfl) T.listN (by decide +kernel)) (pe_lst (pa_cons (pe_tup (pa_cons pe_str (pa_cons (pe_callTy (call_dictPT rfl hu64) (by rfl) T.dictN (by decide +kernel) (pa_cons (pe_slice sl_list (pe_callTy (De.call_listItemsT rfl) (by rfl) T.listN (by decide +kernel) (pa_cons (pe_bm0 PySem.F.plainAttrs_dict PySem.F.slot_dict_items PySem.F.type_dict_items L2.DX.mt_itemsT (pe_dget hu (pv 6) pe_str (fun _ _ => rfl))) pa_nil)) (po_some pe_int) po_none) pa_nil)) pa_nil))) pa_nil))) pa_nil)))
 (pss_cons (ps_set (i := 17) sc_law.nd rfl (Or.inl rfl) (pe_callTy (call_dictP rfl) (by rfl) T.dictN (by decide +kernel) (pa_cons (pe_op op_cat (LiI.pe_listItems rfl (pv 6) (by rfl) T.listN (by decide +kernel)) (pe_lst (pa_cons (pe_tup (pa_cons pe_str (pa_cons (pe_callB (call_sortedA hu64) (by rfl) T.sortedN (by decide +kernel) (pa_cons (pe_op op_cat (pe_dget hu (pv 6) pe_str (fun _ _ => rfl)) (pe_lit (d := .lst [.str "extra"]) 9 (by rfl) (by rfl))) pa_nil)) pa_nil))) pa_nil))) pa_nil)))
 (pss_cons (ps_set (i := 18) sc_law.nd rfl (Or.inl rfl) (pe_callTy (call_dictP rfl) (by rfl) T.dictN (by decide +kernel) (pa_cons (pe_op op_cat (LiI.pe_listItems rfl (pv 6) (by rfl) T.listN (by decide +kernel)) (pe_lst (pa_cons (pe_tup (pa_cons pe_str (pa_cons (pe_op op_add (pv 4) pe_int) pa_nil))) pa_nil))) pa_nil)))
 (pss_cons (ps_set (i := 19) sc_law.nd rfl (Or.inl rfl) (pe_callTy (call_dictP rfl) (by rfl) T.dictN (by decide +kernel) (pa_cons (pe_op op_cat (LiI.pe_listItems rfl (pv 6) (by rfl) T.listN (by decide +kernel)) (pe_lst (pa_cons (pe_tup (pa_cons pe_str (pa_cons (pe_callB (call_sortedA hu64) (by rfl) T.sortedN (by decide +kernel) (pa_cons (pe_op op_cat (pe_dget hu (pv 6) pe_str (fun _ _ => rfl)) (pe_lit (d := .lst [.str "extra"]) 9 (by rfl) (by rfl))) pa_nil)) pa_nil))) pa_nil))) pa_nil)))
 (pss_cons (ps_set (i := 20) sc_law.nd rfl (Or.inl rfl) (pe_def D_law_one hc (hr.mono (by decide)) (pa_cons (pv 1) (pa_cons (pe_callB (call_sortedT rfl hu64) (by rfl) T.sortedN (by decide +kernel) (pa_cons (pe_dget hu (pv 6) pe_str (fun _ _ => rfl)) pa_nil)) pa_nil))))
 (pss_cons (ps_set (i := 21) sc_law.nd rfl (Or.inl rfl) (pe_op op_catA (pe_slice sl_tup (pe_dget hu (pe_dget hu (pv 6) pe_str (fun _ _ => rfl)) (pv 20) (fun _ _ => rfl)) po_none (po_some pe_int)) (pe_tup (pa_cons (pe_op op_catA (pe_ix ix_tup (pe_dget hu (pe_dget hu (pv 6) pe_str (fun _ _ => rfl)) (pv 20) (fun _ _ => rfl)) pe_int (fun _ _ => rfl)) (pe_lit (d := .tup [.str "+kept"]) 9 (by rfl) (by rfl))) pa_nil))))
 (pss_cons (ps_set (i := 22) sc_law.nd rfl (Or.inl rfl) (pe_callTy (call_dictP rfl) (by rfl) T.dictN (by decide +kernel) (pa_cons (pe_op op_cat (LiI.pe_listItems rfl (pv 6) (by rfl) T.listN (by decide +kernel)) (pe_lst (pa_cons (pe_tup (pa_cons pe_str (pa_cons (pe_callTy (call_dictPT rfl hu64) (by rfl) T.dictN (by decide +kernel) (pa_cons (pe_op op_cat (pe_callTy (De.call_listItemsT rfl) (by rfl) T.listN (by decide +kernel) (pa_cons (pe_bm0 PySem.F.plainAttrs_dict PySem.F.slot_dict_items PySem.F.type_dict_items L2.DX.mt_itemsT (pe_dget hu (pv 6) pe_str (fun _ _ => rfl))) pa_nil)) (pe_lst (pa_cons (pe_tup (pa_cons (pv 20) (pa_cons (pv 21) pa_nil))) pa_nil))) pa_nil)) pa_nil))) pa_nil))) pa_nil)))
 (pss_cons (ps_set (i := 23) sc_law.nd rfl (Or.inl rfl) (pe_op op_cat (pe_op op_cat (pe_lst (pa_cons (pv 16) (pa_cons (pv 17) (pa_cons (pv 19) (pa_cons (pv 22) pa_nil))))) (pe_op op_rep (pe_lst (pa_cons (pv 18) pa_nil)) (pe_callTy call_int1 (by rfl) T.intN (by decide +kernel) (pa_cons (pe_cmpR op_lt (pv 4) pe_int (nomark _)) pa_nil)))) (pe_def D_law_rule_otherwise hc (hr.mono (by decide)) (pa_cons (pv 6) (pa_cons (pv 20) pa_nil)))))
 (pss_cons (ps_if (pt_cmpR (op_ne_lst0 hu) (pe_lc (own := [("thing", 24)]) (g := gName 24)  rfl sc_law.nd (pi_list (pv 23)) (blkOk_by (N := ["script", "bag", "turn", "names", "states", "closet", "gate", "due", "doors", "rules", "said", "one", "other", "again", "found", "row", "less", "wide", "more", "known", "key", "rest", "louder", "some", "thing", "k", "place", "heard"]) (sc := defScope s_law) (by decide +kernel)) (fun _ _ _ _ _ => (pg_name (i := 24) sc_law.nd rfl (Or.inl rfl))) (fun _ _ _ _ _ => (pts_one (pt_cmpR (op_eqOK (K := K) rfl M_Gate hc (hr.mono (by decide)) rfl) (pv 11) (pe_def D_law_gate hc (hr.mono (by decide)) (pa_cons (pv 1) (pa_cons (pv 24) pa_nil))) (nomark _)))) (fun _ _ _ _ _ => (pv 24))) (pe_lit (d := .lst []) 9 (by rfl) (by rfl)) (nomark _))
  (pss_one (ps_ret pe_bl))
  pss_nil)
 (pss_one (ps_for PassesOwn.never rfl (pi_range1 rfl T.rangeN (pa_cons pe_int pa_nil)) (pg_name (i := 25) sc_law.nd rfl (Or.inl rfl))
  (pss_cons (ps_set (i := 24) sc_law.nd rfl (Or.inl rfl) (pe_def D_law_bent hc (hr.mono (by decide)) (pa_cons (pv 1) (pa_cons (pv 6) pa_nil))))
 (pss_cons (ps_set (i := 10) sc_law.nd rfl (Or.inl rfl) (pe_callB (call_repr hc hM hu110) (by rfl) T.reprN (by decide +kernel) (pa_cons (pv 24) pa_nil)))
 (pss_cons (ps_set (i := 26) sc_law.nd rfl (Or.inl rfl) (pe_def D_law_due hc (hr.mono (by decide)) (pa_cons (pe_ix ix_list (pv 24) pe_int (fun _ _ => rfl)) (pa_cons (pe_ix ix_list (pv 24) pe_int (fun _ _ => rfl)) (pa_cons (pe_ix ix_list (pv 24) pe_int (fun _ _ => rfl)) (pa_cons (pe_ix ix_list (pv 24) pe_int (fun _ _ => rfl)) pa_nil))))))
 (pss_cons (ps_set (i := 27) sc_law.nd rfl (Or.inl rfl) (pe_def D_law_heard hc (hr.mono (by decide)) (pa_cons (pe_ix ix_list (pv 24) pe_int (fun _ _ => rfl)) (pa_cons (pe_ix ix_list (pv 24) pe_int (fun _ _ => rfl)) (pa_cons (pe_ix ix_list (pv 24) pe_int (fun _ _ => rfl)) (pa_cons (pe_ix ix_list (pv 24) pe_int (fun _ _ => rfl)) pa_nil))))))
 (pss_cons (ps_if (PW.pt (pw_or (pt_cmpR op_ne (pe_callB (call_repr hc hM hu110) (by rfl) T.reprN (by decide +kernel) (pa_cons (pv 24) pa_nil)) (pv 10) (nomark _)) (pw_or1 (pt_cmpR op_ne (pe_ix ix_tup (pv 27) pe_int (fun _ _ => rfl)) (pe_ifExp (pt_cmpR op_isN (pv 26) pe_non (nomark _)) pe_str pe_str) (nomark _)))))
  (pss_one (ps_ret pe_bl))
  pss_nil)
 (pss_one (ps_if (PW.pt (pw_and (pt_cmpR op_notN (pv 26) pe_non (nomark _)) (pw_and1 (pt_not (pt_val (pe_def D_law_alike hc (hr.mono (by decide)) (pa_cons (pe_ix ix_tup (pv 27) pe_int (fun _ _ => rfl)) (pa_cons (pv 26) pa_nil))))))))
  (pss_one (ps_ret pe_bl))
  pss_nil))))))))))))))))))))))))))))))))))
 (pss_one (ps_ret (pe_and (pe_cmpR (op_eqD hu64) (pe_def D_law_heard hc (hr.mono (by decide)) (pa_cons (pv 11) (pa_cons (pe_lst (pa_cons (pv 11) pa_nil)) (pa_cons (pv 11) (pa_cons (pv 11) pa_nil))))) (pe_lit (d := .tup [.str "wrong", .int 0]) 9 (by rfl) (by rfl)) (nomark _)) (pe_one (pe_cmpR (op_eqD hu64) (pe_def D_law_heard hc (hr.mono (by decide)) (pa_mix 9 2 (ds := [.int 1, .lst [.str "a"]]) (by rfl) (by rfl) (pa_cons (pe_lst (pa_cons (pv 11) pa_nil)) (pa_cons (pe_lst (pa_cons (pv 11) pa_nil)) pa_nil)))) (pe_lit (d := .tup [.str "wrong", .int 2]) 9 (by rfl) (by rfl)) (nomark _)))))))), ?_⟩
    refine ⟨_, rfl, a, ns, rfl, hS, hl, fun b l H1 nb nl s1 hb => ?_⟩
    have fr0 := fr_start hb
    generalize (fun y => if y = b then none else H1 y) = F0 at fr0
    have now0 : Now K ⟨[], F0, H1, [(b, .bag)]⟩ F0 H1 [(b, .bag)] := by
      refine ⟨⟨.of fr0.same, fun c hc => ?_, fun c hc => ?_, by simp⟩, .refl⟩
      · rw [List.mem_singleton] at hc; subst hc; exact fr0.out
      · rw [List.mem_singleton] at hc; subst hc
        obtain ⟨l, o, q, hl⟩ := fr0.cell
        exact ⟨l, o, q, hl⟩
    have env0 : Wp.EnvOk K F0 [some (.v (.ref a)), some (.v (.ref b)), none, none, none, none, none, none, none, none, none, none, none, none, none, none, none, none, none, none, none, none, none, none, none, none, none, none]
        [some (.ref a), some (.ref b), none, none, none, none, none, none, none, none, none, none, none, none, none, none, none, none, none, none, none, none, none, none, none, none, none, none] := by
      have e0 : Wp.EnvOk K F0 (List.replicate 28 none) (List.replicate 28 none) := ⟨rfl, fun i t h => by rw [List.getElem?_replicate] at h; split at h <;> cases h⟩
      exact (e0.set 0 (v := .ref a) (t := .v (.ref a)) rfl).set 1 (v := .ref b) (t := .v (.ref b)) rfl
    dsimp only [gName]
    refine (show Wp.wS K ⟨[], F0, H1, [(b, .bag)]⟩ (tSeq (tFor _ _ _) (tRet _)) _ _ ⟨fun _ _ => False, fun _ d => d = .d (.bl true), fun _ _ => False, fun _ _ => False⟩ from ?_) _ F0 H1 _ now0 env0 ⟨fun _ _ _ _ _ p => p.elim, fun os' d v F' H' p m r => ?_, fun _ _ _ _ _ p => p.elim, fun _ _ _ _ _ p => p.elim⟩
    rotate_left
    · subst p
      cases (show v = .bl true from r)
      exact k H'
    generalize hI : (⟨[], F0, H1, [(b, .bag)]⟩ : Wp.Ini) = I
    have hl : I.lk = [] := by rw [← hI]
    clear now0 env0 hI fr0 hb s1 nb nl hS k
    dsimp only [cxOf, Cx.nox, Cx.wish]
    repeat' walk_at "w1"
    refine ⟨by decide, by decide, fun i Γ os => ∃ (o2 o3 o4 o5 o6 o7 o8 o9 o10 o11 o12 o13 o14 o15 o16 o17 o18 o19 o20 o21 o22 o23 o24 o25 o26 o27 : Option Tr) (ot : Os),
      Γ = [some (.v (.ref a)), some (.v (.ref b)), o2, o3, o4, o5, o6, o7, o8, o9, o10, o11, o12, o13, o14, o15, o16, o17, o18, o19, o20, o21, o22, o23, o24, o25, o26, o27] ∧ os = [(b, .bag)] ++ ot ∧
      (0 < i → ∃ n us ws rs, o11 = some (GateTr C n us ws rs) ∧ WfG n us ws rs),
      ⟨none, none, none, none, none, none, none, none, none, none, none, none, none, none, none, none, none, none, none, none, none, none, none, none, none, none, [], rfl, rfl, fun z => absurd z (Nat.lt_irrefl 0)⟩, ?_, ?_⟩
    · rintro i t Γ os ht ⟨o2, o3, o4, o5, o6, o7, o8, o9, o10, o11, o12, o13, o14, o15, o16, o17, o18, o19, o20, o21, o22, o23, o24, o25, o26, o27, ot, rfl, rfl, _⟩
      obtain ⟨hi, rfl⟩ := Wp.rngT_get ht
      refine Wp.wG_name (Wp.wS_forget ?_)
      repeat' walk_at "w1"
      intro d hd
      obtain ⟨nm, rfl, nmd, nml, nms, nmx⟩ := hd.ex
      repeat' walk_at "w1"
      refine Wp.wR_oneD hl (by simp) (by decide) fun x hx => ?_
      obtain ⟨n, rfl, n1, n64⟩ : ∃ n : Int, x = .int n ∧ 1 ≤ n ∧ n ≤ 64 := by
        simp only [List.mem_cons, List.not_mem_nil, or_false] at hx
        rcases hx with rfl | rfl | rfl | rfl | rfl <;> exact ⟨_, rfl, by decide, by decide⟩
      clear hx
      repeat' walk_at "w1"
      intro z z0 z5
      repeat' walk_at "w1"
      refine Wp.wL_list .dat ?_
      obtain ⟨cs0, ec, sc, lc⟩ := cut_str nm (some 2) (some (2 + z))
      have lc4 : cs0.length ≤ 4 := by
        rw [lc]
        unfold Wp.cutD
        rw [List.length_map, nml, show HT.sIx 16 0 (some 2) = 2 from rfl, Wp.sIx_nat (z := 2 + z) (by omega) (by omega)]
        exact Nat.le_trans (List.length_take_le _ _) (by omega)
      rw [Wp.mkLst_cut, ec]
      repeat' walk_at "w1"
      intro z2 z20 z23
      repeat' walk_at "w1"
      refine Wp.wL_list .dat ?_
      obtain ⟨ds0, ed, sd, ld⟩ := cut_str nm none (some (1 + z2))
      have ld0 : ds0 ≠ [] ∧ ds0.length ≤ 3 := by
        rw [Wp.cutD_pre (by omega) (by rw [List.length_map, nml]; omega), List.length_take, List.length_map, nml] at ld
        exact ⟨fun z => by rw [z] at ld; simp at ld; omega, by omega⟩
      rw [Wp.mkLst_cut, ed]
      repeat' walk_at "w1"
      refine Wp.wR_W1 hl ⟨b, n, ds0, cs0, true, rfl, rfl, n1, n64, names_sub sd nmd nml nms, names_sub sc nmd nml nms, ld0.1, by omega, fun us ws rs p1 p2 e1 e2 wf l7 rne tl3 => ?_⟩
      have lu : us.length ≤ 3 := by rw [p1.length_eq]; exact ld0.2
      have lw : ws.length ≤ 4 := by rw [p2.length_eq]; exact lc4
      have hsub : ∀ w, w ∈ us ∨ w ∈ ws → w ∈ nm := fun w hw => by
        rcases hw with h | h
        · exact sd.mem (p1.mem_iff.mp h)
        · exact sc.mem (p2.mem_iff.mp h)
      clear p1 p2 ec ed sc lc sd ld ld0 lc4 z0 z5 z20 z23
      repeat' walk_at "w1"
      refine Wp.wR_W0 hl ⟨n, us, ws, rs, rfl, rfl, wf.rl, wf.ks, fun es _ ee => ?_⟩
      subst ee
      repeat' walk_at "w1"
      refine Wp.wS_par (show Wp.wA K I _ _ [(b, .bag)] _ from ?_)
      repeat' walk_at "w1"
      refine Wp.wR_mixed hl rfl (by rw [List.length_map, List.length_map]; omega) fun pd xd hpd => ?_
      obtain ⟨ed, rfl, hpd2⟩ := Wp.permD hpd
      clear hpd
      obtain ⟨dd, rfl, hpd⟩ := perm_map_str hpd2
      clear hpd2
      repeat' walk_at "w1"
      refine Wp.wR_W0 hl ⟨n, us, ws, rs, rfl, rfl, wf.rl, wf.ks, fun es _ ee => ?_⟩
      subst ee
      repeat' walk_at "w1"
      have p7 : (sortD (rs.map Rl.dat)).Perm (rs.map Rl.dat) := List.mergeSort_perm _ _
      have ls7 : (sortD (rs.map Rl.dat)).length ≤ 7 := by rw [p7.length_eq, List.length_map]; exact l7
      refine Wp.wR_mixed hl rfl (by rw [List.length_map]; omega) fun pr xr hpr => ?_
      obtain ⟨er, rfl, hpr2⟩ := Wp.permD hpr
      clear hpr
      obtain ⟨rr, rfl, hpr⟩ := perm_map (hpr2.trans (List.mergeSort_perm _ _)) rs rfl
      clear hpr2
      repeat' walk_at "w1"
      refine ⟨_, _, rfl, ?_⟩
      repeat' walk_at "w1"
      refine Wp.wR_mixed hl rfl (by rw [List.length_map, List.length_map]; omega) fun pn xn hpn => ?_
      obtain ⟨ec, rfl, hpn2⟩ := Wp.permD hpn
      clear hpn
      obtain ⟨cc, rfl, hpn⟩ := perm_map_str hpn2
      clear hpn2
      repeat' walk_at "w1"
      refine Wp.wE_lst ?_
      repeat' walk_at "w1"
      have wf1 : WfG n dd cc rr := wf.perm hpd hpn hpr
      have dat3 : DatAt K [(b, Wp.Cell.bag), (pd, Wp.Cell.lst ((dd.map Dat.str).map .d)), (pr, Wp.Cell.lst ((rr.map Rl.dat).map .d)), (pn, Wp.Cell.lst ((cc.map Dat.str).map .d))] (Wp.mkLst [Tr.v (V.ref pd), Tr.v (V.ref pn), Tr.v (V.ref pr)]) (.lst [.lst (dd.map .str), .lst (cc.map .str), .lst (rr.map Rl.dat)]) :=
        DatAt.lst (.frozen (Wp.asL_mk _)) ⟨_, _, rfl, DatAt.lst (.own 1 rfl) Wp.DatsAt.map, _, _, rfl, DatAt.lst (.own 3 rfl) Wp.DatsAt.map, _, _, rfl, DatAt.lst (.own 2 rfl) Wp.DatsAt.map, rfl⟩
      have fin3 : Fine 100 sizeLine (.lst [.lst (dd.map .str), .lst (cc.map .str), .lst (rr.map Rl.dat)]) := by
        refine (fine_lst (m := 3) (k := 10) (n := 400000) (fun d hd => ?_) (by simp)).mono (by decide) (by decide)
        simp only [List.mem_cons, List.not_mem_nil, or_false] at hd
        rcases hd with rfl | rfl | rfl
        · exact (fine_names wf1.nd (by rw [hpd.length_eq]; omega)).mono (by decide) (by decide)
        · exact (fine_names wf1.nc (Nat.le_trans wf1.lc (by decide))).mono (by decide) (by decide)
        · exact fine_rules wf1
      refine Wp.wR_reprA dat3 fin3 ?_
      repeat' walk_at "w1"
      refine wE_makeGate hl ?_
      repeat' walk_at "w1"
      refine ⟨n, _, _, _, dd, cc, rr, rfl, DatAt.lst (.own 1 rfl) Wp.DatsAt.map, DatAt.lst (.own 3 rfl) Wp.DatsAt.map, DatAt.lst (.own 2 rfl) Wp.DatsAt.map, wf1, ?_⟩
      repeat' walk_at "w1"
      refine Wp.wR_W1 hl ⟨b, n, us, ws, rs, rfl, rfl, wf, fun us' ws' rs' p1 p2 p3 => ?_⟩
      repeat' walk_at "w1"
      refine Wp.wG_tup ⟨_, Wp.asT_mk _, rfl, ?_⟩
      repeat' walk_at "w1"
      refine Wp.wE_lst ?_
      repeat' walk_at "w1"
      refine Wp.wR_reprA dat3 fin3 ?_
      repeat' walk_at "w1"
      refine ⟨fun e => absurd e (by simp), fun _ => ?_⟩
      repeat' walk_at "w1"
      refine ⟨Wp.wY_own (j := 1) rfl, Wp.wM_clear (j := 1) rfl ?_⟩
      repeat' walk_at "w1"
      refine ⟨Wp.wY_own (j := 3) rfl, ?_⟩
      repeat' walk_at "w1"
      refine Wp.wM_append (j := 3) rfl ?_ ?_
      · rw [List.length_map, List.length_map, hpn.length_eq]
        exact Nat.lt_of_le_of_lt lw (by decide)
      repeat' walk_at "w1"
      refine ⟨Wp.wY_own (j := 2) rfl, ?_⟩
      repeat' walk_at "w1"
      refine Wp.wM_append (j := 2) rfl ?_ ?_
      · rw [List.length_map, List.length_map, hpr.length_eq]
        exact Nat.lt_of_le_of_lt l7 (by decide)
      repeat' walk_at "w1"
      generalize hx2 : (some (Tr.d (Dat.int (0 + (i : Int)))) : Option Tr) = x2
      generalize hx3 : (some (Tr.v (V.ref pn)) : Option Tr) = x3
      generalize hx5 : (some (Tr.d (Dat.lst (cs0.map Dat.str))) : Option Tr) = x5
      generalize hx8 : (some (Tr.v (V.ref pd)) : Option Tr) = x8
      generalize hx9 : (some (Tr.v (V.ref pr)) : Option Tr) = x9
      generalize hx10 : (some (Tr.d (Dat.str _)) : Option Tr) = x10
      clear hx2 hx3 hx5 hx8 hx9 hx10 dat3 fin3
      refine ⟨by decide, by decide, fun j Γ os => ∃ (o13 o14 o15 : Option Tr) (ot : Os),
        Γ = [some (.v (.ref a)), some (.v (.ref b)), x2, x3, some (.d (.int n)), x5, some (gateTr n us ws rs), some (.d (dueD n us ws rs)), x8, x9, x10, some (GateTr C n dd cc rr), some (GateTr C n us' ws' rs'), o13, o14, o15, o16, o17, o18, o19, o20, o21, o22, o23, o24, o25, o26, o27] ∧ os = [(b, .bag)] ++ ot,
        ⟨_, _, _, _, rfl, rfl⟩, ?_, ?_⟩
      · rintro j t Γ os ht ⟨o13, o14, o15, ot, rfl, rfl⟩
        obtain ⟨hj, rfl⟩ := Wp.rngT_get ht
        refine Wp.wG_name (Wp.wS_forget ?_)
        repeat' walk_at "w1"
        refine Wp.wE_lst ?_
        repeat' walk_at "w1"
        refine ⟨⟨_, _, .inl rfl, by decide +kernel⟩, ?_⟩
        repeat' walk_at "w1"
        refine wR_doors hl fun p1 => ?_
        repeat' walk_at "w1"
        refine ⟨⟨_, _, .inl rfl, by decide +kernel⟩, ?_⟩
        repeat' walk_at "w1"
        refine wR_closet hl fun p2 => ?_
        repeat' walk_at "w1"
        refine ⟨⟨_, _, .inl rfl, by decide +kernel⟩, ?_⟩
        repeat' walk_at "w1"
        refine wR_rules hl fun p3 => ?_
        repeat' walk_at "w1"
        refine ⟨⟨_, _, .inl rfl⟩, wR_states hl ?_⟩
        repeat' walk_at "w1"
        have eD : sortS dd = us := (sortS_perm hpd).trans e1
        have eC : sortS cc = ws := (sortS_perm hpn).trans e2
        rw [show ((sortS dd).map fun w => Tr.d (Dat.str w)) = (us.map Dat.str).map .d from by rw [eD, List.map_map]; rfl, show ((sortS cc).map fun w => Tr.d (Dat.str w)) = (ws.map Dat.str).map .d from by rw [eC, List.map_map]; rfl, rules_sorted hpr]
        refine wR_alike (d := dueD n us ws rs) (DatAt.tup (Wp.asT_mk _) ⟨_, _, rfl, DatAt.dat, _, _, rfl, DatAt.dat, _, _, rfl, DatAt.lst (.own 1 rfl) Wp.DatsAt.map, _, _, rfl, DatAt.lst (.own 2 rfl) Wp.DatsAt.map, _, _, rfl, DatAt.lst (.own 3 rfl) Wp.DatsAt.map, rfl⟩) DatAt.dat (due_ok wf (by omega)).1 (due_ok wf (by omega)).2.1 ?_
        repeat' walk_at "w1"
        refine ⟨fun e => (nomatch e), fun _ => ?_⟩
        repeat' walk_at "w1"
        refine ⟨fun j2 Γ os => ∃ (o15 : Option Tr) (t1 t2 t3 : List Tr), Γ = [some (.v (.ref a)), some (.v (.ref b)), x2, x3, some (.d (.int n)), x5, some (gateTr n us ws rs), some (.d (dueD n us ws rs)), x8, x9, x10, some (GateTr C n dd cc rr), some (GateTr C n us' ws' rs'), some (.d (.int (0 + (j : Int)))), some (Wp.mkLst [Tr.v (V.ref p1), Tr.v (V.ref p2), Tr.v (V.ref p3)]), o15, o16, o17, o18, o19, o20, o21, o22, o23, o24, o25, o26, o27] ∧
          os = [(b, .bag), (p1, .lst t1), (p2, .lst t2), (p3, .lst t3)] ∧ t1.length ≤ 100 + j2 ∧ t2.length ≤ 100 + j2 ∧ t3.length ≤ 100 + j2, ⟨_, _, _, _, rfl, rfl, ?_, ?_, ?_⟩, ?_, ?_⟩
        · rw [List.length_map, List.length_map]; omega
        · rw [List.length_map, List.length_map]; omega
        · rw [List.length_map]; omega
        · rintro j2 t Γ os ht ⟨o15, t1, t2, t3, rfl, rfl, q1, q2, q3⟩
          have big : ∀ {x : Nat}, x ≤ 200 → x < sizeLine := fun h => Nat.lt_of_le_of_lt h (by decide)
          rcases j2 with _ | _ | _ | j2
          · cases ht
            repeat' walk_at "w1"
            refine ⟨Wp.wY_own (j := 1) rfl, ?_⟩
            repeat' walk_at "w1"
            refine Wp.wM_append (j := 1) rfl (big (by omega)) ?_
            exact ⟨_, _, _, _, rfl, rfl, by rw [List.length_append]; show _ + 1 ≤ _; omega, by omega, by omega⟩
          · cases ht
            repeat' walk_at "w1"
            refine ⟨Wp.wY_own (j := 2) rfl, ?_⟩
            repeat' walk_at "w1"
            refine Wp.wM_append (j := 2) rfl (big (by omega)) ?_
            exact ⟨_, _, _, _, rfl, rfl, by omega, by rw [List.length_append]; show _ + 1 ≤ _; omega, by omega⟩
          · cases ht
            repeat' walk_at "w1"
            refine ⟨Wp.wY_own (j := 3) rfl, ?_⟩
            repeat' walk_at "w1"
            refine Wp.wM_append (j := 3) rfl (big (by omega)) ?_
            exact ⟨_, _, _, _, rfl, rfl, by omega, by omega, by rw [List.length_append]; show _ + 1 ≤ _; omega⟩
          · cases ht
        · rintro Γ os ⟨o15, t1, t2, t3, rfl, rfl, _⟩
          exact ⟨_, _, _, _, rfl, rfl⟩

      · rintro Γ os ⟨o13, o14, o15, ot, rfl, rfl⟩
        refine Wp.wS_forget ?_
        repeat' walk_at "w1"
        have sm : sameG n dd cc rr n us' ws' rs' = true := (same_iff wf1.ks (wf.perm p1 p2 p3).ks).mpr ⟨rfl, by rw [sortS_perm hpd, sortS_perm p1], by rw [sortS_perm hpn, sortS_perm p2], hpr.trans p3.symm⟩
        refine wO_eqG hl oC wf1 (wf.perm p1 p2 p3) ?_
        rw [sm]
        repeat' walk_at "w1"
        refine ⟨fun e => absurd e (by simp), fun _ => ?_⟩
        repeat' walk_at "w1"
        refine wO_neG hl wf1 (wf.perm p1 p2 p3) ?_
        rw [sm]
        repeat' walk_at "w1"
        refine ⟨fun e => absurd e (by simp), fun _ => ?_⟩
        repeat' walk_at "w1"
        refine wO_eqGd hl (due_ok wf (by omega)).2.2 kT ?_
        repeat' walk_at "w1"
        refine ⟨fun e => (nomatch e), fun _ => ?_⟩
        repeat' walk_at "w1"
        refine wO_eqGd hl rfl kN ?_
        repeat' walk_at "w1"
        refine ⟨fun e => (nomatch e), fun _ => ?_⟩
        repeat' walk_at "w1"
        refine ⟨_, _, rfl, by rw [List.length_map, List.length_map], ?_⟩
        rw [items_rules, Wp.mkLst_d]
        repeat' walk_at "w1"
        refine Wp.wL_list .dat ?_
        repeat' walk_at "w1"
        have l1 : 1 ≤ rs.length := List.length_pos_iff.mpr rne
        rw [Wp.cutD_post (by decide) (by rw [List.length_map]; exact Int.ofNat_le.mpr l1), ← List.map_drop]
        refine Wp.wR_dictPT .dat (pairs_rules _) ?_
        have wless : WfG n us ws (rs.drop 1) := ⟨wf.n1, wf.n64, wf.nd, wf.nc, wf.dn, wf.lc, fun r hr => wf.ok r (List.mem_of_mem_drop hr), fun r hr => wf.tl r (List.mem_of_mem_drop hr), wf.ks.sublist ((List.drop_sublist _ _).map _), Nat.le_trans (by rw [List.length_drop]; omega) wf.rl⟩
        rw [show (1 : Int).toNat = 1 from rfl, mk_rules wless.ks]
        rw [put_rules, gate_mk]
        repeat' walk_at "w1"
        have sl : ∀ {k : Nat}, k ≤ 1000 → k ≤ sizeLine := fun h => Nat.le_trans h (by decide)
        refine Wp.wO_cat .dat .dat (sl (by rw [List.length_map, List.length_map, List.length_map]; show _ + 1 ≤ _; omega)) ?_
        repeat' walk_at "w1"
        obtain ⟨us2, eu2, pu2, _⟩ := sortS_map (us ++ (["extra"] : List Str))
        rw [List.map_append] at eu2
        refine Wp.wR_sorted .dat (by rw [show us.map Dat.str ++ [Dat.str "extra"] = (us ++ (["extra"] : List Str)).map Dat.str from by rw [List.map_append]; rfl]; exact ord_strs _) ?_
        rw [show sortD (us.map Dat.str ++ [Dat.str "extra"]) = us2.map Dat.str from eu2, put_doors, gate_mk]
        repeat' walk_at "w1"
        rw [put_states]
        refine Wp.wO_cat .dat .dat (sl (by rw [List.length_map, List.length_map, List.length_map]; show _ + 1 ≤ _; omega)) ?_
        repeat' walk_at "w1"
        obtain ⟨ws2, ew2, pw2, _⟩ := sortS_map (ws ++ (["extra"] : List Str))
        rw [List.map_append] at ew2
        refine Wp.wR_sorted .dat (by rw [show ws.map Dat.str ++ [Dat.str "extra"] = (ws ++ (["extra"] : List Str)).map Dat.str from by rw [List.map_append]; rfl]; exact ord_strs _) ?_
        rw [show sortD (ws.map Dat.str ++ [Dat.str "extra"]) = ws2.map Dat.str from ew2, put_closet, gate_mk, gate_mk]
        repeat' walk_at "w1"
        refine Wp.wR_sortedT (ord_keys rs) fun ks' pk _ => ?_
        repeat' walk_at "w1"
        refine Wp.wR_oneD hl (fun z => ?_) ?_ fun x hx => ?_
        · have := congrArg List.length z
          rw [List.length_map, pk.length_eq, List.length_map] at this
          exact rne (List.length_eq_zero_iff.mp this)
        · rw [List.length_map, pk.length_eq, List.length_map]; omega
        obtain ⟨r, hr, rfl⟩ : ∃ r ∈ rs, x = r.keyD := by
          obtain ⟨k', hk', rfl⟩ := List.mem_map.mp hx
          obtain ⟨r, hr, rfl⟩ := List.mem_map.mp (pk.mem_iff.mp hk')
          exact ⟨r, hr, rfl⟩
        clear hx pk
        repeat' walk_at "w1"
        refine ⟨_, getD_rule hr wf.ks, ?_⟩
        repeat' walk_at "w1"
        refine Wp.wL_tup (ts := [.d (.int r.later), .d (.bl r.keeps), .d (.tup (r.told.map .str))]) rfl (fun z => by have := z.2; simp [HT.sIx] at this) ?_
        rw [show Wp.mkTup (Wp.cutT [Tr.d (.int r.later), .d (.bl r.keeps), .d (.tup (r.told.map .str))] none (some 2)) = .d (.tup [.int r.later, .bl r.keeps]) from rfl]
        repeat' walk_at "w1"
        refine ⟨_, getD_rule hr wf.ks, ?_⟩
        repeat' walk_at "w1"
        have lt3 := tl3 r hr
        refine Wp.wO_catA (ts := (r.told.map .str).map .d) (us := [Dat.str "+kept"].map .d) rfl rfl (sl (by rw [List.length_map, List.length_map]; show _ + 1 ≤ _; omega)) ?_
        rw [← List.map_append, Wp.mkTup_d]
        repeat' walk_at "w1"
        refine Wp.wO_catA (ts := [.d (.int r.later), .d (.bl r.keeps)]) (us := [.d (.tup (r.told.map Dat.str ++ [Dat.str "+kept"]))]) rfl rfl (Nat.le_of_ble_eq_true rfl) ?_
        repeat' walk_at "w1"
        rw [loud_rest]
        refine ⟨_, _, rfl, by rw [List.length_map, List.length_map], ?_⟩
        rw [items_rules, Wp.mkLst_d]
        refine Wp.wE_lst ?_
        repeat' walk_at "w1"
        refine Wp.wO_cat .dat .dat (sl (by rw [List.length_map, List.length_map, List.length_map]; show _ + 1 ≤ _; omega)) ?_
        repeat' walk_at "w1"
        refine Wp.wR_dictPT .dat (pairs_loud rs r) ?_
        rw [mk_loud wf.ks hr, put_rules, gate_mk]
        repeat' walk_at "w1"
        refine Wp.wE_lst ?_
        repeat' walk_at "w1"
        refine Wp.wE_lst ?_
        repeat' walk_at "w1"
        have c01 : ∀ b : Bool, -(2 ^ 63) ≤ (if b = true then (1 : Int) else 0) ∧ (if b = true then (1 : Int) else 0) < 2 ^ 63 ∧ (if b = true then (1 : Int) else 0).toNat ≤ 1 := fun b => by cases b <;> decide
        refine Wp.wO_rep (.frozen (Wp.asL_mk _)) (c01 _).1 (c01 _).2.1 (Nat.le_trans (Nat.mul_le_mul (Nat.le_refl 1) (c01 _).2.2) (by decide)) ?_
        repeat' walk_at "w1"
        have lrp : ∀ (x : Tr) (b : Bool), (List.replicate (if b = true then (1 : Int) else 0).toNat [x]).flatten.length ≤ 1 := fun x b => by cases b <;> exact (by simp)
        refine Wp.wO_cat (.frozen (Wp.asL_mk _)) (.frozen (Wp.asL_mk _)) (sl (Nat.le_trans (Nat.add_le_add (Nat.le_refl 4) (lrp _ _)) (by decide))) ?_
        repeat' walk_at "w1"
        refine Wp.wR_W0 hl ⟨n, us, ws, rs, r, rfl, rfl, wf, hr, fun qs lq wq => ?_⟩
        repeat' walk_at "w1"
        refine Wp.wO_cat (.frozen (Wp.asL_mk _)) (.frozen (Wp.asL_mk _)) (sl ?_) ?_
        · have := lrp (gateTr (n + 1) us ws rs) (decide (n < 64))
          rw [List.length_map]
          simp only [List.length_cons]
          omega
        dsimp only [List.cons_append, List.nil_append]
        generalize hits : (gateTr n us ws (List.drop 1 rs) :: _) = its
        have lits : its.length ≤ 200 := by
          have := lrp (gateTr (n + 1) us ws rs) (decide (n < 64))
          rw [← hits]
          simp only [List.length_cons, List.length_append, List.length_map]
          omega
        have mits : ∀ t ∈ its, ∃ n' ds' cs' rs', t = gateTr n' ds' cs' rs' ∧ WfG n' ds' cs' rs' ∧ Dif n us ws rs n' ds' cs' rs' := by
          intro t ht
          rw [← hits] at ht
          rcases List.mem_cons.mp ht with rfl | ht
          · exact ⟨n, us, ws, _, rfl, wless, fun z => by have := z.2.2.2.length_eq; rw [List.length_drop] at this; omega⟩
          rcases List.mem_cons.mp ht with rfl | ht
          · exact ⟨n, us2, ws, rs, rfl, wf_wide wf (by omega) (fun h => nmx (hsub _ (.inl h))) pu2⟩
          rcases List.mem_cons.mp ht with rfl | ht
          · exact ⟨n, us, ws2, rs, rfl, wf_known wf (by omega) (fun h => nmx (hsub _ (.inr h))) pw2⟩
          rcases List.mem_cons.mp ht with rfl | ht
          · exact ⟨n, us, ws, loudIn r rs, rfl, loud_wf wf hr lt3⟩
          rcases List.mem_append.mp ht with ht | ht
          · obtain ⟨hb, rfl⟩ := mem_repT ht
            exact ⟨n + 1, us, ws, rs, rfl, wf_more wf (of_decide_eq_true hb)⟩
          · obtain ⟨q, hq, rfl⟩ := List.mem_map.mp ht
            exact ⟨n, us, ws, q, rfl, (wq q hq).1, (wq q hq).2.1⟩
        clear hits
        repeat' walk_at "w1"
        refine Wp.wE_lc ?_
        repeat' walk_at "w1"
        refine ⟨_, Wp.asL_mk _, ?_⟩
        refine Wp.lc_filtG its id (fun _ => false) id (by rw [List.map_id]) (Nat.lt_of_le_of_lt lits (by decide)) (fun t ht => ?_) ?_
        · obtain ⟨n', ds', cs', rs2, rfl, wf2, df2⟩ := mits t ht
          repeat' walk_at "w1"
          refine Wp.wR_W1 hl ⟨b, n', ds', cs', rs2, rfl, rfl, wf2, fun u1 u2 u3 q1 q2 q3 => ?_⟩
          repeat' walk_at "w1"
          have wf3 := wf2.perm q1 q2 q3
          refine wO_eqG hl oC wf1 wf3 ?_
          rw [show sameG n dd cc rr n' u1 u2 u3 = false from Bool.eq_false_iff.mpr fun z => (df2.perm hpd hpn hpr q1 q2 q3) ((same_iff wf1.ks wf3.ks).mp z)]
          exact ⟨_, rfl, rfl, rfl, fun z => (nomatch z)⟩
        rw [show (its.filter fun _ => false) = [] from List.filter_eq_nil_iff.mpr fun _ _ => Bool.noConfusion]
        repeat' walk_at "w1"
        refine Wp.wO_neL0 (.frozen (Wp.asL_mk _)) .dat ?_
        repeat' walk_at "w1"
        refine ⟨fun e => (nomatch e), fun _ => ?_⟩
        repeat' walk_at "w1"
        refine ⟨by decide, by decide, fun j Γ os => ∃ (o10 o24 o25 o26 o27 : Option Tr),
          Γ = [some (.v (.ref a)), some (.v (.ref b)), x2, x3, some (.d (.int n)), x5, some (gateTr n us ws rs), some (.d (dueD n us ws rs)), x8, x9, o10, some (GateTr C n dd cc rr), some (GateTr C n us' ws' rs'), o13, o14, o15,
            some (gateTr n us ws (rs.drop 1)), some (gateTr n us2 ws rs), some (gateTr (n + 1) us ws rs), some (gateTr n us ws2 rs), some (.d r.keyD), some (.d r.loud.restD), some (gateTr n us ws (loudIn r rs)), some (Wp.mkLst its), o24, o25, o26, o27] ∧ os = [(b, .bag)],
          ⟨_, _, _, _, _, rfl, rfl⟩, ?_, ?_⟩
        · rintro j t Γ os ht ⟨o10, o24, o25, o26, o27, rfl, rfl⟩
          obtain ⟨hj, rfl⟩ := Wp.rngT_get ht
          repeat' walk_at "w1"
          refine Wp.wR_W1 hl ⟨b, n, us, ws, rs, rfl, rfl, wf, rne, by omega, fun d1 d2 d3 d4 a1 a2 a3 a4 => ?_⟩
          repeat' walk_at "w1"
          have fd : Fine 100 sizeLine (.lst [d1, d2, d3, d4]) := by
            refine (fine_lst (m := 4) (k := 10) (n := 4000000) (fun d hd => ?_) (by simp)).mono (by decide) (by decide)
            simp only [List.mem_cons, List.not_mem_nil, or_false] at hd
            rcases hd with rfl | rfl | rfl | rfl
            · exact a1.fi
            · exact a2.fi
            · exact a3.fi
            · exact a4.fi
          have ok : ArgOk d1 d2 d3 d4 := arg_ok a2.wd a3.wd a4.fi.pu a4.wd
          refine Wp.wR_repr fd ?_
          repeat' walk_at "w1"
          refine wR_due .dat .dat .dat .dat ok ?_
          repeat' walk_at "w1"
          refine wR_heard .dat .dat .dat .dat ok (fun k hk => ?_) (fun hn v1 v2 v3 v4 => ?_)
          · rw [hk]
            dsimp only [badT]
            repeat' walk_at "w1"
            refine Wp.wR_repr fd ?_
            repeat' walk_at "w1"
            refine ⟨fun e => absurd e (by simp), fun _ => ?_⟩
            repeat' walk_at "w1"
            refine ⟨fun e => (nomatch e), fun _ => ?_⟩
            repeat' walk_at "w1"
            refine ⟨fun e => absurd e (by simp), fun _ => ?_⟩
            repeat' walk_at "w1"
            refine ⟨fun _ => ?_, fun e => (nomatch e)⟩
            repeat' walk_at "w1"
            obtain ⟨k0, k1⟩ := bad_small hk
            refine wR_alike (d := .int k) .dat .dat rfl ((fine_state k0 k1).mono (by decide) (by decide)) ?_
            repeat' walk_at "w1"
            refine ⟨fun e => (nomatch e), fun _ => ?_⟩
            repeat' walk_at "w1"
            exact ⟨_, _, _, _, _, rfl, rfl⟩
          · rw [hn]
            dsimp only [badT]
            repeat' walk_at "w1"
            refine Wp.wR_repr fd ?_
            repeat' walk_at "w1"
            refine ⟨fun e => absurd e (by simp), fun _ => ?_⟩
            repeat' walk_at "w1"
            refine ⟨fun _ => ?_, fun e => (nomatch e)⟩
            repeat' walk_at "w1"
            refine ⟨fun e => absurd e (by simp), fun _ => ?_⟩
            repeat' walk_at "w1"
            refine ⟨fun e => (nomatch e), fun _ => ⟨fun e => (nomatch e), fun _ => ?_⟩⟩
            repeat' walk_at "w1"
            exact ⟨_, _, _, _, _, rfl, rfl⟩
        · rintro Γ os ⟨o10, o24, o25, o26, o27, rfl, rfl⟩
          exact ⟨_, _, _, _, _, _, _, _, _, _, _, _, _, _, _, _, _, _, _, _, _, _, _, _, _, _, [], rfl, rfl, fun _ => ⟨n, dd, cc, rr, rfl, wf1⟩⟩

    · rintro Γ os ⟨o2, o3, o4, o5, o6, o7, o8, o9, o10, o11, o12, o13, o14, o15, o16, o17, o18, o19, o20, o21, o22, o23, o24, o25, o26, o27, ot, rfl, rfl, h11⟩
      obtain ⟨n, us, ws, rs, rfl, wf⟩ := h11 (by rw [Wp.rngT_len]; decide)
      refine Wp.wS_forget ?_
      repeat' walk_at "w1"
      refine Wp.wE_lst ?_
      repeat' walk_at "w1"
      refine wR_heardG fun F H vs nw rr => ?_
      · obtain ⟨v1, _, rfl, r1, v2, _, rfl, r2, v3, _, rfl, r3, v4, _, rfl, r4, rfl⟩ := rr
        obtain ⟨y1, r1⟩ := gate_obj hl oC nw r1
        obtain ⟨y2, r2⟩ := gate_objL hl oC nw r2
        obtain ⟨y3, r3⟩ := gate_obj hl oC nw r3
        obtain ⟨y4, r4⟩ := gate_obj hl oC nw r4
        refine ⟨v1, v2, v3, v4, _, _, _, _, rfl, r1, r2, r3, r4, arg_bad (k := 0) rfl rfl rfl, fun k hk => ?_, fun z => (nomatch (show (some 0 : Option Int) = none from z))⟩
        cases (show (some 0 : Option Int) = some k from hk)
        repeat' walk_at "w1"
        refine Wp.wO_eqD (Wp.shp_of (by decide +kernel)) (Wp.shp_of (by decide +kernel)) ?_
        rw [show PyData.eqv (Dat.tup [.str "wrong", .int 0]).py (Dat.tup [.str "wrong", .int 0]).py = true from by decide +kernel]
        refine ⟨_, rfl, fun _ => ?_, fun e => (nomatch e)⟩
        repeat' walk_at "w1"
        refine Wp.wE_lst ?_
        repeat' walk_at "w1"
        refine Wp.wE_lst ?_
        repeat' walk_at "w1"
        refine wR_heardG fun F H vs nw rr => ?_
        obtain ⟨v1, _, rfl, r1, v2, _, rfl, r2, v3, _, rfl, r3, v4, _, rfl, r4, rfl⟩ := rr
        obtain ⟨y3, r3⟩ := gate_objL hl oC nw r3
        obtain ⟨y4, r4⟩ := gate_objL hl oC nw r4
        refine ⟨v1, v2, v3, v4, .int 1, .lst [.str "a"], _, _, rfl, Wp.Rep.sub nw.sub _ r1, Wp.Rep.sub nw.sub _ r2, r3, r4, arg_bad (k := 2) (by decide +kernel) rfl (head_two (rd := .non)).1, fun k hk => ?_, fun z => (nomatch (show (some 2 : Option Int) = none from head_two.2.symm.trans z))⟩
        cases (show (some 2 : Option Int) = some k from head_two.2.symm.trans hk)
        repeat' walk_at "w1"
        refine Wp.wO_eqD (Wp.shp_of (by decide +kernel)) (Wp.shp_of (by decide +kernel)) ?_
        rw [show PyData.eqv (Dat.tup [.str "wrong", .int 2]).py (Dat.tup [.str "wrong", .int 2]).py = true from by decide +kernel]
end
end K

set_option Elab.async false
set_option linter.all false
set_option maxRecDepth 100000
set_option maxHeartbeats 8000000
namespace K
open PySem PySem.Spec PyProof.Rows L2 G D L S C Sx Kx Ex Lt Qe De Er Ne
open Fz hiding Fr
open C8 (pss_cut tCut)
open PySem.W (dataLt alike AllAlike Sortable)
section
variable {P : Program} {w : World} {K : PySem.W.Frag} {mg : Str → Option Value} {base : Heap}
abbrev s_Wrong___init__ : Stmt := inClass (top 3) 0
theorem sc_Wrong___init__ : FnScope ["self", "place"] ["self", "place"] (defScope s_Wrong___init__) := ⟨rfl, rfl, rfl, by decide +kernel, rfl, by decide +kernel, by decide +kernel⟩
theorem ok_wrong {f W : Addr} {fd : FuncData} (F : Fun K "__init__" "Wrong.__init__" s_Wrong___init__ f fd) (EW : ErC K W f "place") : FnOk P w K mg base CX0 1 f fd ["self", "place"] (spErr K W "place") := by
  refine F.ok sc_Wrong___init__ (fun vs H Q E h => ?_) (fun cdv A outer s H vs Q E hr h => ?_)
  · obtain ⟨a, v, rfl, _⟩ := h
    rfl
  · obtain ⟨a, v, rfl, ha, k⟩ := h
    refine ⟨_, pss_one (ps_ost (pv 0) (pv 1)), ?_⟩
    exact ⟨v, rfl, .ref a, rfl, a, W, rfl, EW.ox, EW.nof, .inl ⟨ha, fun dx hdx ne => k dx hdx ne⟩⟩
theorem ok_alike {f : Addr} {fd : FuncData} (F : Fun K "_law_alike" "_law_alike" s_law_alike f fd) (T : Bl mg) (hM : HasMods base) : Fn P w K mg base CX0 2 f fd ["found", "due"] (spAlike K) := by
  refine fn_calm F sc_law_alike (fun vs H Q E h => ?_) (fun cdv A outer s H vs Q E hc hr h => ?_)
  · obtain ⟨v, u, d, rfl, _⟩ := h
    rfl
  · obtain ⟨v, u, d, rfl, hv, hu', hl, hf, k⟩ := h
    have hu64 := hr.units
    have hu110 : (A.deeper (envOfC "_law_alike" (defScope s_law_alike) s.heap.objs.size f cdv)).units + 110 < cLine := by
      have := hr.un
      omega
    refine ⟨_, (pss_one (ps_ret (pe_and (pe_cmpR (op_eqD hu64) (pv 0) (pv 1) (nomark _)) (pe_one (pe_cmpR op_eq (pe_callB (call_repr hc hM hu110) (by rfl) T.reprN (by decide +kernel) (pa_cons (pv 0) pa_nil)) (pe_callB (call_repr hc hM hu110) (by rfl) T.reprN (by decide +kernel) (pa_cons (pv 1) pa_nil)) (nomark _)))))), ?_⟩
    have sh : SeqAt.shaped d.py = true := by
      unfold SeqAt.shaped
      rw [hl, decide_eq_true (Nat.le_trans hf.dp (by decide))]
      rfl
    refine ⟨_, rfl, _, rfl, d.py, d.py, rep_dp d hv hf.pu hl, rep_dp d hu' hf.pu hl, sh, sh, _, rfl, ?_⟩
    rw [SeqAt.eqv_refl _ hl]
    refine iteT ?_
    have hf' : Fine 100 sizeLine d := hf.mono (by decide) (Nat.le_refl _)
    refine ⟨_, rfl, v, d, rfl, hv, hf', _, rfl, u, d, rfl, hu', hf', rfl, ?_⟩
    rw [decide_eq_true rfl]
    exact k
end
/-- what the written part says of an error's class over ValueError with an __init__ of its own that sets one field -/
structure ErrTxt (K : PySem.W.Frag) (W : Addr) (q f : Str) (st : Stmt) : Prop where
  cls : ∃ nm qn N bs bm sn sub ab col dd k0 k1 k2 k3 k5, K.lookup W = some (excClassObj nm qn W N bs bm true sn sub ab col dd k0 k1 k2 k3 k5 "ValueError.__new__") ∧ PySem.HandSPX.refsVE bm = true
  sa : PySem.W.findIn K (.ref W) "__setattr__" = some (some (.builtin "object.__setattr__"))
  exC : PySem.W.subIn K (.ref W) (.type "BaseException") = some true
  tyC : PySem.W.typeIn K (.ref W) = some (.type "type")
  kC : PySem.W.keepIn K (.ref W) = true
  ga : PySem.W.findIn K (.ref W) "__getattribute__" = some (some (.builtin "BaseException.__getattribute__"))
  gg : PySem.W.findIn K (.ref W) "__getattr__" = some none
  hdC : PySem.W.hasDictIn K W = true
  nof : PySem.W.findIn K (.ref W) f = some none
  hc : PySem.W.isClsIn K W = true
  ha : PySem.W.findIn K (.ref W) "__class__" = some (some (.builtin "object.__class__"))
  hn : PySem.W.specialIn K (.builtin "object.__class__") "__get__" = some (some (.builtin "getset_descriptor.__get__"))
  ht : PySem.W.takesIn K (.builtin "object.__class__") = some true
  hm : PySem.W.mroIn K W (.type "object") = some true
  init : ∃ (fI : Addr) (oc : Value) (od an : Option Addr) (osl : Array (Option Value)) (kV doc pm cdv ct : Value), PySem.W.findIn K (.ref W) "__init__" = some (some (.ref fI)) ∧ PySem.W.typeIn K (.ref fI) = some (.type "function") ∧
    K.lookup fI = some ⟨oc, od, .func (PySem.W.fnOf "__init__" q (defArgs st) (defBody st) (defScope st) .none kV doc pm an cdv ct), osl⟩ ∧ PySem.W.codeIn K cdv q = true ∧ PySem.W.keepIn K (.ref fI) = true
theorem errCls {K : PySem.W.Frag} {W : Addr} {nm qn N bs bm sn sub ab col dd k0 k1 k2 k3 k5} (l : K.lookup W = some (excClassObj nm qn W N bs bm true sn sub ab col dd k0 k1 k2 k3 k5 "ValueError.__new__")) (b : PySem.HandSPX.refsVE bm = true) :
    ∃ nm qn N bs bm sn sub ab col dd k0 k1 k2 k3 k5, K.lookup W = some (excClassObj nm qn W N bs bm true sn sub ab col dd k0 k1 k2 k3 k5 "ValueError.__new__") ∧ PySem.HandSPX.refsVE bm = true := ⟨_, _, _, _, _, _, _, _, _, _, _, _, _, _, _, l, b⟩
theorem errInit {K : PySem.W.Frag} {W fI : Addr} {q : Str} {st : Stmt} {oc : Value} {od an : Option Addr} {osl : Array (Option Value)} {kV doc pm cdv ct : Value} (a : PySem.W.findIn K (.ref W) "__init__" = some (some (.ref fI))) (t : PySem.W.typeIn K (.ref fI) = some (.type "function"))
    (l : K.lookup fI = some ⟨oc, od, .func (PySem.W.fnOf "__init__" q (defArgs st) (defBody st) (defScope st) .none kV doc pm an cdv ct), osl⟩) (c : PySem.W.codeIn K cdv q = true) (k : PySem.W.keepIn K (.ref fI) = true) :
    ∃ (fI : Addr) (oc : Value) (od an : Option Addr) (osl : Array (Option Value)) (kV doc pm cdv ct : Value), PySem.W.findIn K (.ref W) "__init__" = some (some (.ref fI)) ∧ PySem.W.typeIn K (.ref fI) = some (.type "function") ∧
    K.lookup fI = some ⟨oc, od, .func (PySem.W.fnOf "__init__" q (defArgs st) (defBody st) (defScope st) .none kV doc pm an cdv ct), osl⟩ ∧ PySem.W.codeIn K cdv q = true ∧ PySem.W.keepIn K (.ref fI) = true := ⟨fI, oc, od, an, osl, kV, doc, pm, cdv, ct, a, t, l, c, k⟩
theorem ErrTxt.i {K : PySem.W.Frag} {W : Addr} {q f : Str} {st : Stmt} (e : ErrTxt K W q f st) : ErI K W := ⟨e.hc, e.ga, e.gg, e.exC, e.ha, e.hn, e.ht, e.hm⟩
theorem kit_refl {K : PySem.W.Frag} {v : Value} : PySem.W.kitOne K v v = some true := by
  unfold PySem.W.kitOne
  rw [if_pos (by simp)]
theorem exm_up {K : PySem.W.Frag} {W HE : Addr} (b : PySem.W.subIn K (.ref HE) (.type "BaseException") = some true) (i : PySem.W.isClsIn K HE = true) (t : PySem.W.typeIn K (.ref HE) = some (.type "type")) (s : PySem.W.subIn K (.ref W) (.ref HE) = some true) : PySem.W.exmOne K (.ref W) (.ref HE) = some true := by
  unfold PySem.W.exmOne
  rw [b]
  rw [if_pos (show (some true == some true) = true from rfl)]
  unfold PySem.W.kitCls
  simp only
  rw [show (PySem.W.clsIn K HE).isSome = true from i, t, s]
  rfl
/-- a property of the class at C, its getter a def of the class -/
def HasProp (K : PySem.W.Frag) (C : Addr) (x q : Str) (st : Stmt) : Prop := ∃ (p g : Addr) (rest : List Value) (oc : Value) (od an : Option Addr) (osl : Array (Option Value)) (kV doc pm cdv ct : Value),
  PySem.W.findIn K (.ref C) x = some (some (.ref p)) ∧ PySem.W.specialIn K (.ref p) "__get__" = some (some (.builtin "property.__get__")) ∧ PySem.W.takesIn K (.ref p) = some true ∧ PySem.W.recIn K p "property" = some (.ref g :: rest) ∧
  K.lookup g = some ⟨oc, od, .func (PySem.W.fnOf x q (defArgs st) (defBody st) (defScope st) .none kV doc pm an cdv ct), osl⟩ ∧ PySem.W.codeIn K cdv q = true ∧ PySem.W.keepIn K (.ref g) = true
theorem hasProp {K : PySem.W.Frag} {C p g : Addr} {x q : Str} {st : Stmt} {rest : List Value} {oc : Value} {od an : Option Addr} {osl : Array (Option Value)} {kV doc pm cdv ct : Value}
    (a : PySem.W.findIn K (.ref C) x = some (some (.ref p))) (b : PySem.W.specialIn K (.ref p) "__get__" = some (some (.builtin "property.__get__"))) (t : PySem.W.takesIn K (.ref p) = some true) (r : PySem.W.recIn K p "property" = some (.ref g :: rest))
    (l : K.lookup g = some ⟨oc, od, .func (PySem.W.fnOf x q (defArgs st) (defBody st) (defScope st) .none kV doc pm an cdv ct), osl⟩) (c : PySem.W.codeIn K cdv q = true) (k : PySem.W.keepIn K (.ref g) = true) : HasProp K C x q st :=
  ⟨p, g, rest, oc, od, an, osl, kV, doc, pm, cdv, ct, a, b, t, r, l, c, k⟩
end K

set_option Elab.async false
set_option linter.all false
set_option maxRecDepth 100000
set_option maxHeartbeats 8000000
namespace K
open PySem PySem.Spec PyProof.Rows L2 G D L S C Sx Kx Ex Lt Qe De Er Ne
open Fz hiding Fr
open Wp (spW)
/-- the written part holds a def -/
def HasDef (K : PySem.W.Frag) (x : Str) (st : Stmt) : Prop := ∃ (f : Addr) (oc : Value) (od an : Option Addr) (osl : Array (Option Value)) (kV doc pm cdv ct : Value),
  PySem.W.nsIn K mainGlobals x = some (some (.ref f)) ∧ K.lookup f = some ⟨oc, od, .func (PySem.W.fnOf x x (defArgs st) (defBody st) (defScope st) .none kV doc pm an cdv ct), osl⟩ ∧
  PySem.W.codeIn K cdv x = true ∧ PySem.W.keepIn K (.ref f) = true
theorem hasDef {K : PySem.W.Frag} {x : Str} {st : Stmt} {f : Addr} {oc : Value} {od an : Option Addr} {osl : Array (Option Value)} {kV doc pm cdv ct : Value}
    (a : PySem.W.nsIn K mainGlobals x = some (some (.ref f))) (l : K.lookup f = some ⟨oc, od, .func (PySem.W.fnOf x x (defArgs st) (defBody st) (defScope st) .none kV doc pm an cdv ct), osl⟩)
    (c : PySem.W.codeIn K cdv x = true) (k : PySem.W.keepIn K (.ref f) = true) : HasDef K x st := ⟨f, oc, od, an, osl, kV, doc, pm, cdv, ct, a, l, c, k⟩
/-- a class of the written part holds a method -/
def HasMet (K : PySem.W.Frag) (C : Addr) (x q : Str) (st : Stmt) : Prop := ∃ (f : Addr) (oc : Value) (od an : Option Addr) (osl : Array (Option Value)) (kV doc pm cdv ct : Value),
  PySem.W.findIn K (.ref C) x = some (some (.ref f)) ∧ PySem.W.isFn K (.ref f) = true ∧ K.lookup f = some ⟨oc, od, .func (PySem.W.fnOf x q (defArgs st) (defBody st) (defScope st) .none kV doc pm an cdv ct), osl⟩ ∧
  PySem.W.codeIn K cdv q = true ∧ PySem.W.keepIn K (.ref f) = true
theorem hasMet {K : PySem.W.Frag} {C : Addr} {x q : Str} {st : Stmt} {f : Addr} {oc : Value} {od an : Option Addr} {osl : Array (Option Value)} {kV doc pm cdv ct : Value}
    (a : PySem.W.findIn K (.ref C) x = some (some (.ref f))) (i : PySem.W.isFn K (.ref f) = true) (l : K.lookup f = some ⟨oc, od, .func (PySem.W.fnOf x q (defArgs st) (defBody st) (defScope st) .none kV doc pm an cdv ct), osl⟩)
    (c : PySem.W.codeIn K cdv q = true) (k : PySem.W.keepIn K (.ref f) = true) : HasMet K C x q st := ⟨f, oc, od, an, osl, kV, doc, pm, cdv, ct, a, i, l, c, k⟩
theorem kit_own {K : PySem.W.Frag} {C : Addr} {T : String} (m : PySem.W.kitMeta T = true) (h : PySem.W.subIn K (.ref C) (.type T) = some false) : PySem.W.kitOne K (.ref C) (.type T) = some false := by
  unfold PySem.W.kitOne
  rw [if_neg (by simp)]
  unfold PySem.W.kitCls
  simp only
  rw [if_pos m, h]
theorem kit_of_own {K : PySem.W.Frag} {C : Addr} {T : String} (i : PySem.W.isClsIn K C = true) (t : PySem.W.typeIn K (.ref C) = some (.type "type")) (h : PySem.W.subIn K (.type T) (.ref C) = some false) :
    PySem.W.kitOne K (.type T) (.ref C) = some false := by
  unfold PySem.W.kitOne
  rw [if_neg (by simp)]
  unfold PySem.W.kitCls
  simp only
  rw [if_pos, h]
  rw [show (PySem.W.clsIn K C).isSome = true from i, t]
  rfl
theorem all_mk {P : Program} {w : World} {K : PySem.W.Frag} {h : Heap} {mg : Str → Option Value} {fa C W HE : Addr} (X : K.In h) (G : h.Ns mainGlobals mg) (hfa : mg "law" = some (.ref fa))
    (h_is_integer : HasDef K "is_integer" s_is_integer)
    (h_is_below : HasDef K "is_below" s_is_below)
    (h_is_name : HasDef K "is_name" s_is_name)
    (h_are_names : HasDef K "are_names" s_are_names)
    (h_law_bag : HasDef K "_law_bag" s_law_bag)
    (h_law_take : HasDef K "_law_take" s_law_take)
    (h_law_one : HasDef K "_law_one" s_law_one)
    (h_law_alike : HasDef K "_law_alike" s_law_alike)
    (h_law_mixed : HasDef K "_law_mixed" s_law_mixed)
    (h_law_is_whole : HasDef K "_law_is_whole" s_law_is_whole)
    (h_law_is_name : HasDef K "_law_is_name" s_law_is_name)
    (h_law_are_names : HasDef K "_law_are_names" s_law_are_names)
    (h_law_odd : HasDef K "_law_odd" s_law_odd)
    (h_law_rule_row : HasDef K "_law_rule_row" s_law_rule_row)
    (h_law_sorted_rules : HasDef K "_law_sorted_rules" s_law_sorted_rules)
    (h_law_drawn_rule : HasDef K "_law_drawn_rule" s_law_drawn_rule)
    (h_law_drawn_gate : HasDef K "_law_drawn_gate" s_law_drawn_gate)
    (h_law_gate : HasDef K "_law_gate" s_law_gate)
    (h_law_menu : HasDef K "_law_menu" s_law_menu)
    (h_law_is_rule : HasDef K "_law_is_rule" s_law_is_rule)
    (h_law_due : HasDef K "_law_due" s_law_due)
    (h_law_heard : HasDef K "_law_heard" s_law_heard)
    (h_law_bent_rule : HasDef K "_law_bent_rule" s_law_bent_rule)
    (h_law_bent : HasDef K "_law_bent" s_law_bent)
    (h_law_rule_otherwise : HasDef K "_law_rule_otherwise" s_law_rule_otherwise)
    (h_law : HasDef K "law" s_law)
    (aC : PySem.W.nsIn K mainGlobals "Gate" = some (some (.ref C)))
    (hm_init__ : HasMet K C "__init__" "Gate.__init__" s_Gate___init__)
    (hm_is_rule : HasMet K C "_is_rule" "Gate._is_rule" s_Gate__is_rule)
    (hm_eq__ : HasMet K C "__eq__" "Gate.__eq__" s_Gate___eq__)
    (hm_doors : HasMet K C "doors" "Gate.doors" s_Gate_doors)
    (hm_closet : HasMet K C "closet" "Gate.closet" s_Gate_closet)
    (hm_rules : HasMet K C "rules" "Gate.rules" s_Gate_rules)
    (mk : PySem.W.makesIn K C = true) (kc : PySem.W.keepIn K (.ref C) = true)
    (oC : OwnC K C)
    (aW : PySem.W.nsIn K mainGlobals "Wrong" = some (some (.ref W)))
    (aHE : PySem.W.nsIn K mainGlobals "HouseError" = some (some (.ref HE)))
    (eT : ErrTxt K W "Wrong.__init__" "place" s_Wrong___init__)
    (xb : PySem.W.subIn K (.ref HE) (.type "BaseException") = some true)
    (xi : PySem.W.isClsIn K HE = true)
    (xt : PySem.W.typeIn K (.ref HE) = some (.type "type"))
    (xs : PySem.W.subIn K (.ref W) (.ref HE) = some true)
    (pS : HasProp K C "states" "Gate.states" s_Gate_states)
    (nf : ∀ T ∈ ["NoneType", "bool", "int", "str", "list", "tuple", "dict"], PySem.W.notFirst K C (.type T) = true)
    (nfo : PySem.W.notFirst K C (.ref C) = true)
    (neN : PySem.W.findIn K (.ref C) "__ne__" = some (some (.builtin "object.__ne__")))
    (ci : PySem.W.isClsIn K C = true)
    (ct : PySem.W.typeIn K (.ref C) = some (.type "type"))
    (s1 : PySem.W.subIn K (.type "tuple") (.ref C) = some false)
    (s2 : PySem.W.subIn K (.type "NoneType") (.ref C) = some false)
    (n1 : PySem.W.findIn K (.ref C) "_states" = some none)
    (n2 : PySem.W.findIn K (.ref C) "_doors" = some none)
    (n3 : PySem.W.findIn K (.ref C) "_closet" = some none)
    (n4 : PySem.W.findIn K (.ref C) "_rules" = some none)
    (z_len : PySem.W.nsIn K mainGlobals "len" = some none)
    (z_isinstance : PySem.W.nsIn K mainGlobals "isinstance" = some none)
    (z_int : PySem.W.nsIn K mainGlobals "int" = some none)
    (z_str : PySem.W.nsIn K mainGlobals "str" = some none)
    (z_bool : PySem.W.nsIn K mainGlobals "bool" = some none)
    (z_list : PySem.W.nsIn K mainGlobals "list" = some none)
    (z_tuple : PySem.W.nsIn K mainGlobals "tuple" = some none)
    (z_dict : PySem.W.nsIn K mainGlobals "dict" = some none)
    (z_set : PySem.W.nsIn K mainGlobals "set" = some none)
    (z_abs : PySem.W.nsIn K mainGlobals "abs" = some none)
    (z_repr : PySem.W.nsIn K mainGlobals "repr" = some none)
    (z_sorted : PySem.W.nsIn K mainGlobals "sorted" = some none)
    (z_all : PySem.W.nsIn K mainGlobals "all" = some none)
    (z_range : PySem.W.nsIn K mainGlobals "range" = some none)
    (z_zip : PySem.W.nsIn K mainGlobals "zip" = some none)
    (z_enumerate : PySem.W.nsIn K mainGlobals "enumerate" = some none)
    (z_min : PySem.W.nsIn K mainGlobals "min" = some none)
    : ∃ fd : FuncData, (∀ (s : Shared) (v : Value), BindsTo s fd ⟨[v], []⟩ [("script", v)]) ∧ ∀ base : Heap, K.In base → base.Ns mainGlobals mg → HasMods base → Fn P w K mg base CX0 8 fa fd ["script"] (spLaw K) := by
  have T : Bl mg := ⟨PySem.W.mg_none_of X G z_len, PySem.W.mg_none_of X G z_isinstance, PySem.W.mg_none_of X G z_int, PySem.W.mg_none_of X G z_str, PySem.W.mg_none_of X G z_bool, PySem.W.mg_none_of X G z_list, PySem.W.mg_none_of X G z_tuple, PySem.W.mg_none_of X G z_dict, PySem.W.mg_none_of X G z_set, PySem.W.mg_none_of X G z_abs, PySem.W.mg_none_of X G z_repr, PySem.W.mg_none_of X G z_sorted, PySem.W.mg_none_of X G z_all, PySem.W.mg_none_of X G z_range, PySem.W.mg_none_of X G z_zip, PySem.W.mg_none_of X G z_enumerate, PySem.W.mg_none_of X G z_min⟩
  have hG := PySem.W.mg_of X G aC
  obtain ⟨f_is_integer, _, _, _, _, _, _, _, _, _, a_is_integer, l_is_integer, c_is_integer, k_is_integer⟩ := h_is_integer
  have F_is_integer := fun_mk (st := s_is_integer) l_is_integer c_is_integer k_is_integer
  have b_is_integer := F_is_integer.binds (ps := ["thing"]) fun _ _ _ _ _ _ us hl => match us, hl with | [_], _ => rfl
  have m_is_integer := PySem.W.mg_of X G a_is_integer
  obtain ⟨f_is_below, _, _, _, _, _, _, _, _, _, a_is_below, l_is_below, c_is_below, k_is_below⟩ := h_is_below
  have F_is_below := fun_mk (st := s_is_below) l_is_below c_is_below k_is_below
  have b_is_below := F_is_below.binds (ps := ["thing", "many"]) fun _ _ _ _ _ _ us hl => match us, hl with | [_, _], _ => rfl
  have m_is_below := PySem.W.mg_of X G a_is_below
  obtain ⟨f_is_name, _, _, _, _, _, _, _, _, _, a_is_name, l_is_name, c_is_name, k_is_name⟩ := h_is_name
  have F_is_name := fun_mk (st := s_is_name) l_is_name c_is_name k_is_name
  have b_is_name := F_is_name.binds (ps := ["thing"]) fun _ _ _ _ _ _ us hl => match us, hl with | [_], _ => rfl
  have m_is_name := PySem.W.mg_of X G a_is_name
  obtain ⟨f_are_names, _, _, _, _, _, _, _, _, _, a_are_names, l_are_names, c_are_names, k_are_names⟩ := h_are_names
  have F_are_names := fun_mk (st := s_are_names) l_are_names c_are_names k_are_names
  have b_are_names := F_are_names.binds (ps := ["thing"]) fun _ _ _ _ _ _ us hl => match us, hl with | [_], _ => rfl
  have m_are_names := PySem.W.mg_of X G a_are_names
  obtain ⟨f_law_bag, _, _, _, _, _, _, _, _, _, a_law_bag, l_law_bag, c_law_bag, k_law_bag⟩ := h_law_bag
  have F_law_bag := fun_mk (st := s_law_bag) l_law_bag c_law_bag k_law_bag
  have b_law_bag := F_law_bag.binds (ps := ["script"]) fun _ _ _ _ _ _ us hl => match us, hl with | [_], _ => rfl
  have m_law_bag := PySem.W.mg_of X G a_law_bag
  obtain ⟨f_law_take, _, _, _, _, _, _, _, _, _, a_law_take, l_law_take, c_law_take, k_law_take⟩ := h_law_take
  have F_law_take := fun_mk (st := s_law_take) l_law_take c_law_take k_law_take
  have b_law_take := F_law_take.binds (ps := ["bag", "many"]) fun _ _ _ _ _ _ us hl => match us, hl with | [_, _], _ => rfl
  have m_law_take := PySem.W.mg_of X G a_law_take
  obtain ⟨f_law_one, _, _, _, _, _, _, _, _, _, a_law_one, l_law_one, c_law_one, k_law_one⟩ := h_law_one
  have F_law_one := fun_mk (st := s_law_one) l_law_one c_law_one k_law_one
  have b_law_one := F_law_one.binds (ps := ["bag", "things"]) fun _ _ _ _ _ _ us hl => match us, hl with | [_, _], _ => rfl
  have m_law_one := PySem.W.mg_of X G a_law_one
  obtain ⟨f_law_alike, _, _, _, _, _, _, _, _, _, a_law_alike, l_law_alike, c_law_alike, k_law_alike⟩ := h_law_alike
  have F_law_alike := fun_mk (st := s_law_alike) l_law_alike c_law_alike k_law_alike
  have b_law_alike := F_law_alike.binds (ps := ["found", "due"]) fun _ _ _ _ _ _ us hl => match us, hl with | [_, _], _ => rfl
  have m_law_alike := PySem.W.mg_of X G a_law_alike
  obtain ⟨f_law_mixed, _, _, _, _, _, _, _, _, _, a_law_mixed, l_law_mixed, c_law_mixed, k_law_mixed⟩ := h_law_mixed
  have F_law_mixed := fun_mk (st := s_law_mixed) l_law_mixed c_law_mixed k_law_mixed
  have b_law_mixed := F_law_mixed.binds (ps := ["bag", "things"]) fun _ _ _ _ _ _ us hl => match us, hl with | [_, _], _ => rfl
  have m_law_mixed := PySem.W.mg_of X G a_law_mixed
  obtain ⟨f_law_is_whole, _, _, _, _, _, _, _, _, _, a_law_is_whole, l_law_is_whole, c_law_is_whole, k_law_is_whole⟩ := h_law_is_whole
  have F_law_is_whole := fun_mk (st := s_law_is_whole) l_law_is_whole c_law_is_whole k_law_is_whole
  have b_law_is_whole := F_law_is_whole.binds (ps := ["thing"]) fun _ _ _ _ _ _ us hl => match us, hl with | [_], _ => rfl
  have m_law_is_whole := PySem.W.mg_of X G a_law_is_whole
  obtain ⟨f_law_is_name, _, _, _, _, _, _, _, _, _, a_law_is_name, l_law_is_name, c_law_is_name, k_law_is_name⟩ := h_law_is_name
  have F_law_is_name := fun_mk (st := s_law_is_name) l_law_is_name c_law_is_name k_law_is_name
  have b_law_is_name := F_law_is_name.binds (ps := ["thing"]) fun _ _ _ _ _ _ us hl => match us, hl with | [_], _ => rfl
  have m_law_is_name := PySem.W.mg_of X G a_law_is_name
  obtain ⟨f_law_are_names, _, _, _, _, _, _, _, _, _, a_law_are_names, l_law_are_names, c_law_are_names, k_law_are_names⟩ := h_law_are_names
  have F_law_are_names := fun_mk (st := s_law_are_names) l_law_are_names c_law_are_names k_law_are_names
  have b_law_are_names := F_law_are_names.binds (ps := ["thing"]) fun _ _ _ _ _ _ us hl => match us, hl with | [_], _ => rfl
  have m_law_are_names := PySem.W.mg_of X G a_law_are_names
  obtain ⟨f_law_odd, _, _, _, _, _, _, _, _, _, a_law_odd, l_law_odd, c_law_odd, k_law_odd⟩ := h_law_odd
  have F_law_odd := fun_mk (st := s_law_odd) l_law_odd c_law_odd k_law_odd
  have b_law_odd := F_law_odd.binds (ps := ["bag"]) fun _ _ _ _ _ _ us hl => match us, hl with | [_], _ => rfl
  have m_law_odd := PySem.W.mg_of X G a_law_odd
  obtain ⟨f_law_rule_row, _, _, _, _, _, _, _, _, _, a_law_rule_row, l_law_rule_row, c_law_rule_row, k_law_rule_row⟩ := h_law_rule_row
  have F_law_rule_row := fun_mk (st := s_law_rule_row) l_law_rule_row c_law_rule_row k_law_rule_row
  have b_law_rule_row := F_law_rule_row.binds (ps := ["key", "rest"]) fun _ _ _ _ _ _ us hl => match us, hl with | [_, _], _ => rfl
  have m_law_rule_row := PySem.W.mg_of X G a_law_rule_row
  obtain ⟨f_law_sorted_rules, _, _, _, _, _, _, _, _, _, a_law_sorted_rules, l_law_sorted_rules, c_law_sorted_rules, k_law_sorted_rules⟩ := h_law_sorted_rules
  have F_law_sorted_rules := fun_mk (st := s_law_sorted_rules) l_law_sorted_rules c_law_sorted_rules k_law_sorted_rules
  have b_law_sorted_rules := F_law_sorted_rules.binds (ps := ["gate"]) fun _ _ _ _ _ _ us hl => match us, hl with | [_], _ => rfl
  have m_law_sorted_rules := PySem.W.mg_of X G a_law_sorted_rules
  obtain ⟨f_law_drawn_rule, _, _, _, _, _, _, _, _, _, a_law_drawn_rule, l_law_drawn_rule, c_law_drawn_rule, k_law_drawn_rule⟩ := h_law_drawn_rule
  have F_law_drawn_rule := fun_mk (st := s_law_drawn_rule) l_law_drawn_rule c_law_drawn_rule k_law_drawn_rule
  have b_law_drawn_rule := F_law_drawn_rule.binds (ps := ["bag", "gate", "can_keep"]) fun _ _ _ _ _ _ us hl => match us, hl with | [_, _, _], _ => rfl
  have m_law_drawn_rule := PySem.W.mg_of X G a_law_drawn_rule
  obtain ⟨f_law_drawn_gate, _, _, _, _, _, _, _, _, _, a_law_drawn_gate, l_law_drawn_gate, c_law_drawn_gate, k_law_drawn_gate⟩ := h_law_drawn_gate
  have F_law_drawn_gate := fun_mk (st := s_law_drawn_gate) l_law_drawn_gate c_law_drawn_gate k_law_drawn_gate
  have b_law_drawn_gate := F_law_drawn_gate.binds (ps := ["bag", "states", "doors", "closet", "can_keep"]) fun _ _ _ _ _ _ us hl => match us, hl with | [_, _, _, _, _], _ => rfl
  have m_law_drawn_gate := PySem.W.mg_of X G a_law_drawn_gate
  obtain ⟨f_law_gate, _, _, _, _, _, _, _, _, _, a_law_gate, l_law_gate, c_law_gate, k_law_gate⟩ := h_law_gate
  have F_law_gate := fun_mk (st := s_law_gate) l_law_gate c_law_gate k_law_gate
  have b_law_gate := F_law_gate.binds (ps := ["bag", "gate"]) fun _ _ _ _ _ _ us hl => match us, hl with | [_, _], _ => rfl
  have m_law_gate := PySem.W.mg_of X G a_law_gate
  obtain ⟨f_law_menu, _, _, _, _, _, _, _, _, _, a_law_menu, l_law_menu, c_law_menu, k_law_menu⟩ := h_law_menu
  have F_law_menu := fun_mk (st := s_law_menu) l_law_menu c_law_menu k_law_menu
  have b_law_menu := F_law_menu.binds (ps := ["bag"]) fun _ _ _ _ _ _ us hl => match us, hl with | [_], _ => rfl
  have m_law_menu := PySem.W.mg_of X G a_law_menu
  obtain ⟨f_law_is_rule, _, _, _, _, _, _, _, _, _, a_law_is_rule, l_law_is_rule, c_law_is_rule, k_law_is_rule⟩ := h_law_is_rule
  have F_law_is_rule := fun_mk (st := s_law_is_rule) l_law_is_rule c_law_is_rule k_law_is_rule
  have b_law_is_rule := F_law_is_rule.binds (ps := ["states", "doors", "closet", "thing"]) fun _ _ _ _ _ _ us hl => match us, hl with | [_, _, _, _], _ => rfl
  have m_law_is_rule := PySem.W.mg_of X G a_law_is_rule
  obtain ⟨f_law_due, _, _, _, _, _, _, _, _, _, a_law_due, l_law_due, c_law_due, k_law_due⟩ := h_law_due
  have F_law_due := fun_mk (st := s_law_due) l_law_due c_law_due k_law_due
  have b_law_due := F_law_due.binds (ps := ["states", "doors", "closet", "rules"]) fun _ _ _ _ _ _ us hl => match us, hl with | [_, _, _, _], _ => rfl
  have m_law_due := PySem.W.mg_of X G a_law_due
  obtain ⟨f_law_heard, _, _, _, _, _, _, _, _, _, a_law_heard, l_law_heard, c_law_heard, k_law_heard⟩ := h_law_heard
  have F_law_heard := fun_mk (st := s_law_heard) l_law_heard c_law_heard k_law_heard
  have b_law_heard := F_law_heard.binds (ps := ["states", "doors", "closet", "rules"]) fun _ _ _ _ _ _ us hl => match us, hl with | [_, _, _, _], _ => rfl
  have m_law_heard := PySem.W.mg_of X G a_law_heard
  obtain ⟨f_law_bent_rule, _, _, _, _, _, _, _, _, _, a_law_bent_rule, l_law_bent_rule, c_law_bent_rule, k_law_bent_rule⟩ := h_law_bent_rule
  have F_law_bent_rule := fun_mk (st := s_law_bent_rule) l_law_bent_rule c_law_bent_rule k_law_bent_rule
  have b_law_bent_rule := F_law_bent_rule.binds (ps := ["bag", "rule", "gate"]) fun _ _ _ _ _ _ us hl => match us, hl with | [_, _, _], _ => rfl
  have m_law_bent_rule := PySem.W.mg_of X G a_law_bent_rule
  obtain ⟨f_law_bent, _, _, _, _, _, _, _, _, _, a_law_bent, l_law_bent, c_law_bent, k_law_bent⟩ := h_law_bent
  have F_law_bent := fun_mk (st := s_law_bent) l_law_bent c_law_bent k_law_bent
  have b_law_bent := F_law_bent.binds (ps := ["bag", "gate"]) fun _ _ _ _ _ _ us hl => match us, hl with | [_, _], _ => rfl
  have m_law_bent := PySem.W.mg_of X G a_law_bent
  obtain ⟨f_law_rule_otherwise, _, _, _, _, _, _, _, _, _, a_law_rule_otherwise, l_law_rule_otherwise, c_law_rule_otherwise, k_law_rule_otherwise⟩ := h_law_rule_otherwise
  have F_law_rule_otherwise := fun_mk (st := s_law_rule_otherwise) l_law_rule_otherwise c_law_rule_otherwise k_law_rule_otherwise
  have b_law_rule_otherwise := F_law_rule_otherwise.binds (ps := ["gate", "key"]) fun _ _ _ _ _ _ us hl => match us, hl with | [_, _], _ => rfl
  have m_law_rule_otherwise := PySem.W.mg_of X G a_law_rule_otherwise
  obtain ⟨fm_init__, _, _, _, _, _, _, _, _, _, am_init__, im_init__, lm_init__, cm_init__, km_init__⟩ := hm_init__
  have Fm_init__ := fun_mk (st := s_Gate___init__) lm_init__ cm_init__ km_init__
  have bm_init__ := Fm_init__.binds (ps := ["self", "states", "doors", "closet", "rules"]) fun _ _ _ _ _ _ us hl => match us, hl with | [_, _, _, _, _], _ => rfl
  have M_init__ : Meth K C "__init__" fm_init__ := ⟨am_init__, im_init__, km_init__⟩
  obtain ⟨fm_is_rule, _, _, _, _, _, _, _, _, _, am_is_rule, im_is_rule, lm_is_rule, cm_is_rule, km_is_rule⟩ := hm_is_rule
  have Fm_is_rule := fun_mk (st := s_Gate__is_rule) lm_is_rule cm_is_rule km_is_rule
  have bm_is_rule := Fm_is_rule.binds (ps := ["self", "thing"]) fun _ _ _ _ _ _ us hl => match us, hl with | [_, _], _ => rfl
  have M_is_rule : Meth K C "_is_rule" fm_is_rule := ⟨am_is_rule, im_is_rule, km_is_rule⟩
  obtain ⟨fm_eq__, _, _, _, _, _, _, _, _, _, am_eq__, im_eq__, lm_eq__, cm_eq__, km_eq__⟩ := hm_eq__
  have Fm_eq__ := fun_mk (st := s_Gate___eq__) lm_eq__ cm_eq__ km_eq__
  have bm_eq__ := Fm_eq__.binds (ps := ["self", "other"]) fun _ _ _ _ _ _ us hl => match us, hl with | [_, _], _ => rfl
  have M_eq__ : Meth K C "__eq__" fm_eq__ := ⟨am_eq__, im_eq__, km_eq__⟩
  obtain ⟨fm_doors, _, _, _, _, _, _, _, _, _, am_doors, im_doors, lm_doors, cm_doors, km_doors⟩ := hm_doors
  have Fm_doors := fun_mk (st := s_Gate_doors) lm_doors cm_doors km_doors
  have bm_doors := Fm_doors.binds (ps := ["self"]) fun _ _ _ _ _ _ us hl => match us, hl with | [_], _ => rfl
  have M_doors : Meth K C "doors" fm_doors := ⟨am_doors, im_doors, km_doors⟩
  obtain ⟨fm_closet, _, _, _, _, _, _, _, _, _, am_closet, im_closet, lm_closet, cm_closet, km_closet⟩ := hm_closet
  have Fm_closet := fun_mk (st := s_Gate_closet) lm_closet cm_closet km_closet
  have bm_closet := Fm_closet.binds (ps := ["self"]) fun _ _ _ _ _ _ us hl => match us, hl with | [_], _ => rfl
  have M_closet : Meth K C "closet" fm_closet := ⟨am_closet, im_closet, km_closet⟩
  obtain ⟨fm_rules, _, _, _, _, _, _, _, _, _, am_rules, im_rules, lm_rules, cm_rules, km_rules⟩ := hm_rules
  have Fm_rules := fun_mk (st := s_Gate_rules) lm_rules cm_rules km_rules
  have bm_rules := Fm_rules.binds (ps := ["self"]) fun _ _ _ _ _ _ us hl => match us, hl with | [_], _ => rfl
  have M_rules : Meth K C "rules" fm_rules := ⟨am_rules, im_rules, km_rules⟩
  have gc : GCls K C := ⟨oC.cl, n1, n2, n3, n4⟩
  obtain ⟨f_law, oc0, od0, an0, osl0, kV0, doc0, pm0, cdv0, ct0, a_law, l_law, c_law, k_law⟩ := h_law
  have e := hfa.symm.trans (PySem.W.mg_of X G a_law)
  cases e
  refine ⟨PySem.W.fnOf "law" "law" (defArgs s_law) (defBody s_law) (defScope s_law) .none kV0 doc0 pm0 an0 cdv0 ct0, fun s v => .of_eq rfl, fun base hK hN hM => ?_⟩
  have MG : Mk K C fm_init__ := ⟨mk, am_init__, im_init__, kc⟩
  have hW := PySem.W.mg_of X G aW
  have hHE := PySem.W.mg_of X G aHE
  obtain ⟨fW, ocW, odW, anW, oslW, kVW, docW, pmW, cdvW, ctW, iW, tW, lW, cW, kW⟩ := eT.init
  have FW := fun_mk (st := s_Wrong___init__) lW cW kW
  have bW := FW.binds (ps := ["self", "place"]) fun _ _ _ _ _ _ us hl => match us, hl with | [_, _], _ => rfl
  have EW : ErC K W fW "place" := ⟨⟨eT.cls, eT.sa, eT.exC, eT.tyC, eT.kC⟩, ⟨eT.ga, eT.gg, eT.exC, eT.hdC⟩, iW, tW, eT.nof⟩
  have IW : FnOk P w K mg base CX0 1 fW _ ["self", "place"] (spErr K W "place") := ok_wrong FW EW
  have xm := exm_up xb xi xt xs
  obtain ⟨pP, gP, restP, ocP, odP, anP, oslP, kVP, docP, pmP, cdvP, ctP, q1, q2, q3, q4, q5, q6, q7⟩ := pS
  have FS := fun_mk (st := s_Gate_states) q5 q6 q7
  have bS := FS.binds (ps := ["self"]) fun _ _ _ _ _ _ us hl => match us, hl with | [_], _ => rfl
  have PS : PropOf K C "states" pP gP := ⟨q1, q2, q3, restP, q4⟩
  have SF : FnOk P w K mg base CX0 1 gP _ ["self"] (spStates K C) := ok_states FS gc
  have kT := kit_of_own ci ct s1
  have kN := kit_of_own ci ct s2
  have D_is_integer : Def P w K mg base 2 "is_integer" ["thing"] (spB K (fun _ => True) isWhole) := ⟨f_is_integer, _, ok_is_integer F_is_integer T, b_is_integer, m_is_integer, k_is_integer⟩
  have D_is_below : Def P w K mg base 3 "is_below" ["thing", "many"] (spBelow K) := ⟨f_is_below, _, ok_below F_is_below T D_is_integer, b_is_below, m_is_below, k_is_below⟩
  have D_is_name : Def P w K mg base 2 "is_name" ["thing"] (spB K Wd isName) := ⟨f_is_name, _, ok_is_name F_is_name T, b_is_name, m_is_name, k_is_name⟩
  have D_are_names : Def P w K mg base 3 "are_names" ["thing"] (spB K (fun d => Wd d ∧ ∀ ds, d = .lst ds ∨ d = .tup ds → ds.length < 4000) areNames) := ⟨f_are_names, _, ok_are_names F_are_names T D_is_name, b_are_names, m_are_names, k_are_names⟩
  have G_is_rule : Fn P w K mg base CX0 4 fm_is_rule _ ["self", "thing"] (spIsRule K C) := ok_is_rule Fm_is_rule T gc D_is_below
  have G_init__ : Fn P w K mg base (L2.CX P w) 5 fm_init__ _ ["self", "states", "doors", "closet", "rules"] (spInitX K C W) := ok_init Fm_init__ T gc hW EW IW bW D_is_integer D_are_names M_is_rule G_is_rule bm_is_rule
  have GI := init_of G_init__
  have G_eq__ : Fn P w K mg base CX0 2 fm_eq__ _ ["self", "other"] (spEq K C) := ok_eq Fm_eq__ T hG gc oC kit_refl
  have G_doors : Fn P w K mg base CX0 1 fm_doors _ ["self"] (spDoors K C) := ok_doors Fm_doors T gc
  have G_closet : Fn P w K mg base CX0 1 fm_closet _ ["self"] (spCloset K C) := ok_closet Fm_closet T gc
  have G_rules : Fn P w K mg base CX0 1 fm_rules _ ["self"] (spRules K C) := ok_rules Fm_rules T gc
  have MGate : EqM P w K mg base 2 C ["self", "other"] (spEq K C) := ⟨fm_eq__, _, G_eq__, bm_eq__, am_eq__, im_eq__, nf, nfo⟩
  have D_law_bag : Def P w K mg base 2 "_law_bag" ["script"] (spBag K) := ⟨f_law_bag, _, ok_bag F_law_bag T, b_law_bag, m_law_bag, k_law_bag⟩
  have D_law_take : Def P w K mg base 2 "_law_take" ["bag", "many"] (spTake) := ⟨f_law_take, _, ok_take F_law_take T, b_law_take, m_law_take, k_law_take⟩
  have D_law_one : Def P w K mg base 3 "_law_one" ["bag", "things"] (spOne) := ⟨f_law_one, _, ok_one F_law_one T D_law_take, b_law_one, m_law_one, k_law_one⟩
  have D_law_alike : Def P w K mg base 2 "_law_alike" ["found", "due"] (spAlike K) := ⟨f_law_alike, _, ok_alike F_law_alike T hM, b_law_alike, m_law_alike, k_law_alike⟩
  have D_law_mixed : Def P w K mg base 3 "_law_mixed" ["bag", "things"] (spMixed K) := ⟨f_law_mixed, _, ok_mixed F_law_mixed T D_law_take, b_law_mixed, m_law_mixed, k_law_mixed⟩
  have D_law_is_whole : Def P w K mg base 2 "_law_is_whole" ["thing"] (spB K (fun _ => True) isWhole) := ⟨f_law_is_whole, _, ok_law_is_whole F_law_is_whole T, b_law_is_whole, m_law_is_whole, k_law_is_whole⟩
  have D_law_is_name : Def P w K mg base 2 "_law_is_name" ["thing"] (spB K Wd isName) := ⟨f_law_is_name, _, ok_law_is_name F_law_is_name T, b_law_is_name, m_law_is_name, k_law_is_name⟩
  have D_law_are_names : Def P w K mg base 3 "_law_are_names" ["thing"] (spB K Wd areNames) := ⟨f_law_are_names, _, ok_law_are_names F_law_are_names T D_law_is_name, b_law_are_names, m_law_are_names, k_law_are_names⟩
  have D_law_odd : Def P w K mg base 4 "_law_odd" ["bag"] (spDraw K Gd) := ⟨f_law_odd, _, ok_odd F_law_odd T D_law_take D_law_one, b_law_odd, m_law_odd, k_law_odd⟩
  have D_law_rule_row : Def P w K mg base 1 "_law_rule_row" ["key", "rest"] (spRow K) := ⟨f_law_rule_row, _, ok_rule_row F_law_rule_row , b_law_rule_row, m_law_rule_row, k_law_rule_row⟩
  have D_law_sorted_rules : Def P w K mg base 2 "_law_sorted_rules" ["gate"] (spSortedRules K) := ⟨f_law_sorted_rules, _, ok_sorted_rules F_law_sorted_rules T D_law_rule_row, b_law_sorted_rules, m_law_sorted_rules, k_law_sorted_rules⟩
  have D_law_drawn_rule : Def P w K mg base 4 "_law_drawn_rule" ["bag", "gate", "can_keep"] (spDrawnRule K) := ⟨f_law_drawn_rule, _, ok_drawn_rule F_law_drawn_rule T D_law_take D_law_one, b_law_drawn_rule, m_law_drawn_rule, k_law_drawn_rule⟩
  have D_law_drawn_gate : Def P w K mg base 5 "_law_drawn_gate" ["bag", "states", "doors", "closet", "can_keep"] (spDrawnGate K) := ⟨f_law_drawn_gate, _, ok_drawn_gate F_law_drawn_gate T D_law_take D_law_drawn_rule, b_law_drawn_gate, m_law_drawn_gate, k_law_drawn_gate⟩
  have D_law_gate : Def P w K mg base 7 "_law_gate" ["bag", "gate"] (spLawGate K C) := ⟨f_law_gate, _, ok_law_gate F_law_gate T hG MG GI bm_init__ D_law_take D_law_mixed D_law_sorted_rules, b_law_gate, m_law_gate, k_law_gate⟩
  have D_law_menu : Def P w K mg base 4 "_law_menu" ["bag"] (spDraw K (Gnames 16)) := ⟨f_law_menu, _, ok_menu F_law_menu T D_law_mixed, b_law_menu, m_law_menu, k_law_menu⟩
  have D_law_is_rule : Def P w K mg base 3 "_law_is_rule" ["states", "doors", "closet", "thing"] (spLRule K) := ⟨f_law_is_rule, _, ok_law_is_rule F_law_is_rule T D_law_is_whole, b_law_is_rule, m_law_is_rule, k_law_is_rule⟩
  have D_law_due : Def P w K mg base 4 "_law_due" ["states", "doors", "closet", "rules"] (spDue K) := ⟨f_law_due, _, ok_law_due F_law_due T D_law_is_whole D_law_are_names D_law_is_rule, b_law_due, m_law_due, k_law_due⟩
  have D_law_heard : Def P w K mg base 7 "_law_heard" ["states", "doors", "closet", "rules"] (spHeard K) := ⟨f_law_heard, _, ok_heard F_law_heard T gc hG hW hHE EW eT.i xm kit_refl MG G_init__ bm_init__ PS SF bS M_doors G_doors bm_doors M_closet G_closet bm_closet M_rules G_rules bm_rules, b_law_heard, m_law_heard, k_law_heard⟩
  have D_law_bent_rule : Def P w K mg base 5 "_law_bent_rule" ["bag", "rule", "gate"] (spBentRule K) := ⟨f_law_bent_rule, _, ok_bent_rule F_law_bent_rule T D_law_take D_law_one D_law_odd, b_law_bent_rule, m_law_bent_rule, k_law_bent_rule⟩
  have D_law_bent : Def P w K mg base 6 "_law_bent" ["bag", "gate"] (spW K tBent) := ⟨f_law_bent, _, ok_bent F_law_bent T (D_law_take.weak Wp.take_w) (D_law_one.weak Wp.one_w) (D_law_odd.weak Wp.draw_w) (D_law_sorted_rules.weak sorted_w) (D_law_bent_rule.weak bent_rule_w), b_law_bent, m_law_bent, k_law_bent⟩
  have D_law_rule_otherwise : Def P w K mg base 3 "_law_rule_otherwise" ["gate", "key"] (spW K tOther) := ⟨f_law_rule_otherwise, _, ok_other F_law_rule_otherwise T, b_law_rule_otherwise, m_law_rule_otherwise, k_law_rule_otherwise⟩
  have D_mixO : Def P w K mg base 3 "_law_mixed" ["bag", "things"] (spW K Wp.tMixed) := ⟨f_law_mixed, _, ok_mixedO F_law_mixed T (D_law_take.weak Wp.take_w), b_law_mixed, m_law_mixed, k_law_mixed⟩
  exact ok_law (fun_mk (st := s_law) l_law c_law k_law) T hM gc oC hG MG GI bm_init__ PS SF bS M_doors G_doors bm_doors M_closet G_closet bm_closet M_rules G_rules bm_rules MGate oC.hm neN kT kN D_law_bag (D_law_take.weak Wp.take_w) (D_law_one.weak Wp.one_w) D_law_alike D_mixO (D_law_menu.weak Wp.draw_w) (D_law_sorted_rules.weak sorted_w) (D_law_drawn_gate.weak drawn_w) (D_law_gate.weak law_gate_w) D_law_rule_otherwise D_law_bent D_law_due D_law_heard
end K

set_option Elab.async false
set_option linter.all false
open PySem PySem.W PyProof.Rows in
set_option maxRecDepth 100000 in
set_option maxHeartbeats 0 in
theorem PySem.Challenge.cw_letinside_k12_gates_told_and_refused_holds : PySem.Challenge.rw_letinside_k12_gates_told_and_refused.Holds := by
  w_on; o_law; k_head; (case hw => w_witness2)
  k_fill
  refine G.walk_by (l := PySem.Challenge.rw_letinside_k12_gates_told_and_refused) (n := 63) (k := 8) (x := "script") (sp := fun F => _root_.K.spLaw F) rfl (by decide) rfl ⟨rfl, by decide, by decide⟩ (by rfl) (fun w h Y => PySem.W.kIn_of Y) ?F (fun _ H a ns hl hO hS => ⟨a, ns, rfl, hS, hl, fun _ => rfl⟩)
  case F =>
    intro w mg fa h KX G hmg
    refine' _root_.K.all_mk KX G hmg ?d_is_integer ?d_is_below ?d_is_name ?d_are_names ?d_law_bag ?d_law_take ?d_law_one ?d_law_alike ?d_law_mixed ?d_law_is_whole ?d_law_is_name ?d_law_are_names ?d_law_odd ?d_law_rule_row ?d_law_sorted_rules ?d_law_drawn_rule ?d_law_drawn_gate ?d_law_gate ?d_law_menu ?d_law_is_rule ?d_law_due ?d_law_heard ?d_law_bent_rule ?d_law_bent ?d_law_rule_otherwise ?law ?aC ?e_init__ ?e_is_rule ?e_eq__ ?e_doors ?e_closet ?e_rules ?mk ?kc ?oC ?aW ?aHE ?eT ?xb ?xi ?xt ?xs ?pS ?nf ?nfo ?neN ?ci ?ct ?s1 ?s2 ?n1 ?n2 ?n3 ?n4 ?z_len ?z_isinstance ?z_int ?z_str ?z_bool ?z_list ?z_tuple ?z_dict ?z_set ?z_abs ?z_repr ?z_sorted ?z_all ?z_range ?z_zip ?z_enumerate ?z_min
    (case d_is_integer => (refine' _root_.K.hasDef ?a ?l ?c ?k; (case a => k_is); (case l => k_is); (case c => k_is); (case k => k_is)))
    (case d_is_below => (refine' _root_.K.hasDef ?a ?l ?c ?k; (case a => k_is); (case l => k_is); (case c => k_is); (case k => k_is)))
    (case d_is_name => (refine' _root_.K.hasDef ?a ?l ?c ?k; (case a => k_is); (case l => k_is); (case c => k_is); (case k => k_is)))
    (case d_are_names => (refine' _root_.K.hasDef ?a ?l ?c ?k; (case a => k_is); (case l => k_is); (case c => k_is); (case k => k_is)))
    (case d_law_bag => (refine' _root_.K.hasDef ?a ?l ?c ?k; (case a => k_is); (case l => k_is); (case c => k_is); (case k => k_is)))
    (case d_law_take => (refine' _root_.K.hasDef ?a ?l ?c ?k; (case a => k_is); (case l => k_is); (case c => k_is); (case k => k_is)))
    (case d_law_one => (refine' _root_.K.hasDef ?a ?l ?c ?k; (case a => k_is); (case l => k_is); (case c => k_is); (case k => k_is)))
    (case d_law_alike => (refine' _root_.K.hasDef ?a ?l ?c ?k; (case a => k_is); (case l => k_is); (case c => k_is); (case k => k_is)))
    (case d_law_mixed => (refine' _root_.K.hasDef ?a ?l ?c ?k; (case a => k_is); (case l => k_is); (case c => k_is); (case k => k_is)))
    (case d_law_is_whole => (refine' _root_.K.hasDef ?a ?l ?c ?k; (case a => k_is); (case l => k_is); (case c => k_is); (case k => k_is)))
    (case d_law_is_name => (refine' _root_.K.hasDef ?a ?l ?c ?k; (case a => k_is); (case l => k_is); (case c => k_is); (case k => k_is)))
    (case d_law_are_names => (refine' _root_.K.hasDef ?a ?l ?c ?k; (case a => k_is); (case l => k_is); (case c => k_is); (case k => k_is)))
    (case d_law_odd => (refine' _root_.K.hasDef ?a ?l ?c ?k; (case a => k_is); (case l => k_is); (case c => k_is); (case k => k_is)))
    (case d_law_rule_row => (refine' _root_.K.hasDef ?a ?l ?c ?k; (case a => k_is); (case l => k_is); (case c => k_is); (case k => k_is)))
    (case d_law_sorted_rules => (refine' _root_.K.hasDef ?a ?l ?c ?k; (case a => k_is); (case l => k_is); (case c => k_is); (case k => k_is)))
    (case d_law_drawn_rule => (refine' _root_.K.hasDef ?a ?l ?c ?k; (case a => k_is); (case l => k_is); (case c => k_is); (case k => k_is)))
    (case d_law_drawn_gate => (refine' _root_.K.hasDef ?a ?l ?c ?k; (case a => k_is); (case l => k_is); (case c => k_is); (case k => k_is)))
    (case d_law_gate => (refine' _root_.K.hasDef ?a ?l ?c ?k; (case a => k_is); (case l => k_is); (case c => k_is); (case k => k_is)))
    (case d_law_menu => (refine' _root_.K.hasDef ?a ?l ?c ?k; (case a => k_is); (case l => k_is); (case c => k_is); (case k => k_is)))
    (case d_law_is_rule => (refine' _root_.K.hasDef ?a ?l ?c ?k; (case a => k_is); (case l => k_is); (case c => k_is); (case k => k_is)))
    (case d_law_due => (refine' _root_.K.hasDef ?a ?l ?c ?k; (case a => k_is); (case l => k_is); (case c => k_is); (case k => k_is)))
    (case d_law_heard => (refine' _root_.K.hasDef ?a ?l ?c ?k; (case a => k_is); (case l => k_is); (case c => k_is); (case k => k_is)))
    (case d_law_bent_rule => (refine' _root_.K.hasDef ?a ?l ?c ?k; (case a => k_is); (case l => k_is); (case c => k_is); (case k => k_is)))
    (case d_law_bent => (refine' _root_.K.hasDef ?a ?l ?c ?k; (case a => k_is); (case l => k_is); (case c => k_is); (case k => k_is)))
    (case d_law_rule_otherwise => (refine' _root_.K.hasDef ?a ?l ?c ?k; (case a => k_is); (case l => k_is); (case c => k_is); (case k => k_is)))
    (case law => (refine' _root_.K.hasDef ?a ?l ?c ?k; (case a => k_is); (case l => k_is); (case c => k_is); (case k => k_is)))
    (case aC => k_is)
    (case e_init__ => (refine' _root_.K.hasMet ?a ?i ?l ?c ?k; (case a => k_is); (case i => k_is); (case l => k_is); (case c => k_is); (case k => k_is)))
    (case e_is_rule => (refine' _root_.K.hasMet ?a ?i ?l ?c ?k; (case a => k_is); (case i => k_is); (case l => k_is); (case c => k_is); (case k => k_is)))
    (case e_eq__ => (refine' _root_.K.hasMet ?a ?i ?l ?c ?k; (case a => k_is); (case i => k_is); (case l => k_is); (case c => k_is); (case k => k_is)))
    (case e_doors => (refine' _root_.K.hasMet ?a ?i ?l ?c ?k; (case a => k_is); (case i => k_is); (case l => k_is); (case c => k_is); (case k => k_is)))
    (case e_closet => (refine' _root_.K.hasMet ?a ?i ?l ?c ?k; (case a => k_is); (case i => k_is); (case l => k_is); (case c => k_is); (case k => k_is)))
    (case e_rules => (refine' _root_.K.hasMet ?a ?i ?l ?c ?k; (case a => k_is); (case i => k_is); (case l => k_is); (case c => k_is); (case k => k_is)))
    (case mk => k_is)
    (case kc => k_is)
    (case oC => (refine' ⟨⟨?_, ?_, ?_, ?_⟩, ?_, ?_, ?_, ?_, _root_.K.kit_own (by decide +kernel) ?_, _root_.K.kit_own (by decide +kernel) ?_, _root_.K.kit_own (by decide +kernel) ?_, _root_.K.kit_own (by decide +kernel) ?_, _root_.K.kit_own (by decide +kernel) ?_, _root_.K.kit_own (by decide +kernel) ?_⟩ <;> k_is))
    (case aW => k_is)
    (case aHE => k_is)
    (case eT => (refine' ⟨?e0, ?e1, ?e2, ?e3, ?e4, ?e5, ?e6, ?e7, ?e8, ?e9, ?e10, ?e11, ?e12, ?e13, ?e14⟩; (case e0 => (refine' _root_.K.errCls ?l ?b; (case l => k_is); (case b => decide +kernel))); (case e1 => k_is); (case e2 => k_is); (case e3 => k_is); (case e4 => k_is); (case e5 => k_is); (case e6 => k_is); (case e7 => k_is); (case e8 => k_is); (case e9 => k_is); (case e10 => k_is); (case e11 => k_is); (case e12 => k_is); (case e13 => k_is); (case e14 => (refine' _root_.K.errInit ?a ?t ?l ?c ?k; (case a => k_is); (case t => k_is); (case l => k_is); (case c => k_is); (case k => k_is)))))
    (case xb => k_is)
    (case xi => k_is)
    (case xt => k_is)
    (case xs => k_is)
    (case pS => (refine' _root_.K.hasProp ?a ?b ?t ?r ?l ?c ?k; (case a => k_is); (case b => k_is); (case t => k_is); (case r => k_is); (case l => k_is); (case c => k_is); (case k => k_is)))
    (case nf => (intro T hT; simp only [List.mem_cons, List.not_mem_nil, or_false] at hT; rcases hT with rfl | rfl | rfl | rfl | rfl | rfl | rfl <;> k_is))
    (case nfo => k_is)
    (case neN => k_is)
    (case ci => k_is)
    (case ct => k_is)
    (case s1 => k_is)
    (case s2 => k_is)
    (case n1 => k_is)
    (case n2 => k_is)
    (case n3 => k_is)
    (case n4 => k_is)
    (case z_len => k_is)
    (case z_isinstance => k_is)
    (case z_int => k_is)
    (case z_str => k_is)
    (case z_bool => k_is)
    (case z_list => k_is)
    (case z_tuple => k_is)
    (case z_dict => k_is)
    (case z_set => k_is)
    (case z_abs => k_is)
    (case z_repr => k_is)
    (case z_sorted => k_is)
    (case z_all => k_is)
    (case z_range => k_is)
    (case z_zip => k_is)
    (case z_enumerate => k_is)
    (case z_min => k_is)

