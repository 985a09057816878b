import PyProof.Rows.All
import Wide.All
import OpenK.AllK
import Wide.FinOn
import HandS.ForMost
import HandS.IsInst
import HandS.DeepEq
import PyProof.ReprLen
import HandS.Style
import HandS.Flow
import HandS.TupLe
import HandS.Strs
import HandS.Zip
import HandS.Codes
import KE.SortData
import KE.DataCmp
import HandS.Walk
import KE.SortCalls
import HandS.Conv
import KE.KDictSum
import PyProof.StrLawsRepr
import PySem.Challenge.RW_letinside_k13_calls_by_rules
set_option Elab.async false
set_option linter.all false
set_option maxRecDepth 100000
set_option maxHeartbeats 4000000
/-! Calls that know that no repr runs around them (guards), so that repr of data may be asked within. -/
namespace G
open PySem PySem.Spec PyProof.Rows L2

/-- no repr is under way -/
abbrev Calm (A : Around) : Prop := A.guards = some []

/-- a promise of a def, for callers that no repr has called -/
structure Fn (P : Program) (w : World) (K : PySem.W.Frag) (mg : Str → Option Value)
    (base : Heap) (CX : CXT) (k : Nat) (f : Addr) (fd : FuncData) (ps : List Str) (sp : Sp) : Prop where
  len : ∀ vs H Q E, sp vs H Q E → vs.length = ps.length
  go : ∀ A outer s H args us vs Q E, Calm A → Room k A →
    Env0 P w K mg base A outer s H → BindsTo s fd args (ps.zip us) → Vals vs us →
    sp vs H Q E →
    codeAny (model P w) A (.call (.ref f) args) (CR CX outer P w H s Q E) s

section
variable {P : Program} {w : World} {K : PySem.W.Frag} {mg : Str → Option Value}
  {base : Heap} {CX : CXT} {k j : Nat} {f : Addr} {fd : FuncData} {ps : List Str} {sp : Sp}
theorem Fn.up (F : Fn P w K mg base CX j f fd ps sp) (h : j ≤ k) :
    Fn P w K mg base CX k f fd ps sp :=
  ⟨F.len, fun A o s H a us vs Q E c r => F.go A o s H a us vs Q E c (r.mono h)⟩
theorem Fn.weak {sp' : Sp} (F : Fn P w K mg base CX k f fd ps sp)
    (h : ∀ vs H Q E, sp' vs H Q E → sp vs H Q E) : Fn P w K mg base CX k f fd ps sp' :=
  ⟨fun vs H Q E q => F.len vs H Q E (h _ _ _ _ q),
   fun A o s H a us vs Q E c r e b v q => F.go A o s H a us vs Q E c r e b v (h _ _ _ _ q)⟩
theorem Fn.ofOk (F : FnOk P w K mg base CX k f fd ps sp) : Fn P w K mg base CX k f fd ps sp :=
  ⟨F.len, fun A o s H a us vs Q E _ r e b v q => F.run A o s H a us vs Q E r e b v q⟩
end

section
variable {X : Cx} {CX : CXT} {k : Nat} {f C : Addr} {fd : FuncData} {ps : List Str} {sp : Sp}
  {dvs : List V} {ds : List Value} {E : XK} {x m : Str} {p pos apos : Pos} {e o : Expr}
  {es : List Expr} {ta : TE} {t : TA} {r : List V → Hp → VK → Prop}

/-- a def as something that is called with values -/
theorem callR_fn (F : Fn X.prog X.w X.K X.mg X.base CX k f fd ps sp) (hc : Calm X.A)
    (hr : Room k X.A) (hb : Binds X.K fd ps ds) (hd : Vals dvs ds) (hx : Passes CX X E) :
    CallR X (.ref f) (fun vs H Q => sp (vs ++ dvs) H Q E) := by
  intro pins s σ H vs us Q I rv h
  have r2 := rv.append hd
  have hl : (us ++ ds).length = ps.length := (r2.length.symm).trans (F.len _ _ _ _ h)
  have go := F.go X.A X.stack s H ⟨us, []⟩ _ _ Q E hc hr I.env0 (hb s us I.kIn hl) r2 h
  refine wpAny_call (codeAny_mono go ?_)
  rintro (e | fl) s' hq
  · exact hx pins σ H s e s' I hq
  · cases fl <;> first | exact I.after hq | exact False.elim hq

/-- f(e, ..), f a def of the module -/
theorem pe_fn (F : Fn X.prog X.w X.K X.mg X.base CX k f fd ps sp) (hc : Calm X.A)
    (hr : Room k X.A) (hg : Gl X x) (hm : X.mg x = some (.ref f))
    (hk : PySem.W.keepIn X.K (.ref f) = true) (hb : Binds X.K fd ps ds) (hd : Vals dvs ds)
    (hx : Passes CX X E) (ha : PA X (e :: es) t)
    (hdb : (x == ("__debug__" : Str)) = false := by decide)
    (he : starEach (e :: es) X.env = (false, eval e X.env) :: starEach es X.env := by rfl)
    (hpl : (backTo pos (starEach es X.env)).any (·.1) = false := by rfl) :
    PE X (.Call (.Name x p) (e :: es) [] pos) (tCall sp dvs E t) := by
  constructor
  intro pins s σ H Q I h
  refine wpAny_Call_Name_kw (ld_glob I hg hm ?_ hdb)
  have hA := ha.run pos pins s σ H _ I h
  refine PySem.W.callWith_K (h₀ := X.base) I.ok.mod.kin hk (thn hA ?_) he hpl
  rintro us s1 ⟨vs, H1, I1, rv, q⟩
  exact ⟨I1.kIn, callR_fn F hc hr hb hd hx pins s1 σ H1 vs us Q I1 rv q⟩
theorem pe_fn0 (F : Fn X.prog X.w X.K X.mg X.base CX k f fd ps sp) (hc : Calm X.A)
    (hr : Room k X.A) (hg : Gl X x) (hm : X.mg x = some (.ref f))
    (hk : PySem.W.keepIn X.K (.ref f) = true) (hb : Binds X.K fd ps ds) (hd : Vals dvs ds)
    (hx : Passes CX X E) (hdb : (x == ("__debug__" : Str)) = false := by decide) :
    PE X (.Call (.Name x p) [] [] pos) (tCall sp dvs E tNil) := by
  constructor
  intro pins s σ H Q I h
  refine wpAny_Call_Name_kw (ld_glob I hg hm ?_ hdb)
  exact PySem.W.callWith_K0 I.kIn hk (callR_fn F hc hr hb hd hx pins s σ H [] [] Q I .nil h)

/-- the tree of a method's call -/
abbrev methTree (X : Cx) (o : Expr) (m : Str) (apos pos : Pos) (es : List Expr) (pl : Sem Bool) : Sem Value := do
  let ov ← eval o X.env
  standAt apos.atName
  let (g, first) ← holding [ov] (getMethod ov m pl)
  callWith pos g first (backTo pos (starEach es X.env)) (backToKw pos (keywordEach [] X.env))

/-- o.m(e, ..), o an instance of the class at C -/
theorem pe_mth {pl : Sem Bool} (he : PE X o ta) (c : Cls X.K C) (hm : Meth X.K C m f)
    (F : Fn X.prog X.w X.K X.mg X.base CX k f fd ps sp) (hc : Calm X.A) (hr : Room k X.A)
    (hb : Binds X.K fd ps ds) (hd : Vals dvs ds) (hx : Passes CX X E) (ha : PA X (e :: es) t)
    (hst : starEach (e :: es) X.env = (false, eval e X.env) :: starEach es X.env := by rfl)
    (hpl : (backTo pos (starEach es X.env)).any (·.1) = false := by rfl)
    (ht : eval (.Call (.Attribute o m apos) (e :: es) [] pos) X.env = methTree X o m apos pos (e :: es) pl := by rfl) :
    PE X (.Call (.Attribute o m apos) (e :: es) [] pos) (tMeth C m sp dvs E ta t) := by
  constructor
  intro pins s σ H Q I h
  refine PySem.W.methodCall_KW (pl := pl) (thn (he.run pins s σ H _ I h) ?_) ht
  rintro u s1 ⟨y, H1, I1, rx, a, dx, fs, rfl, ea, l, q⟩
  obtain rfl : u = Value.ref a := rx
  refine getmeth_ok I1 ea c hm l ?_
  have hA := ha.run pos pins s1 σ H1 _ I1 q
  refine PySem.W.callWith_K (first := [.ref a]) (h₀ := X.base) I.ok.mod.kin hm.kp (thn hA ?_) hst hpl
  rintro us s2 ⟨vs, H2, I2, rv, q2⟩
  have rv2 : Vals (V.ref a :: vs) (Value.ref a :: us) := .cons rfl rv
  exact ⟨I2.kIn, callR_fn F hc hr hb hd hx pins s2 σ H2 _ _ Q I2 rv2 q2⟩
theorem pe_mth0 {pl : Sem Bool} (he : PE X o ta) (c : Cls X.K C) (hm : Meth X.K C m f)
    (F : Fn X.prog X.w X.K X.mg X.base CX k f fd ps sp) (hc : Calm X.A) (hr : Room k X.A)
    (hb : Binds X.K fd ps ds) (hd : Vals dvs ds) (hx : Passes CX X E)
    (ht : eval (.Call (.Attribute o m apos) [] [] pos) X.env = methTree X o m apos pos [] pl := by rfl) :
    PE X (.Call (.Attribute o m apos) [] [] pos) (tMeth C m sp dvs E ta tNil) := by
  constructor
  intro pins s σ H Q I h
  refine PySem.W.methodCall_KW (pl := pl) (thn (he.run pins s σ H _ I h) ?_) ht
  rintro u s1 ⟨y, H1, I1, rx, a, dx, fs, rfl, ea, l, q⟩
  obtain rfl : u = Value.ref a := rx
  refine getmeth_ok I1 ea c hm l ?_
  have rv2 : Vals [V.ref a] [Value.ref a] := .cons rfl .nil
  exact PySem.W.callWith_K0 (first := [.ref a]) I1.kIn hm.kp (callR_fn F hc hr hb hd hx pins s1 σ H1 _ _ Q I1 rv2 q)

/-- C(..), a class of the module with an __init__ of its own, as something that is called with values -/
theorem callR_make (M : Mk X.K C f) (F : Fn X.prog X.w X.K X.mg X.base CX k f fd ps sp) (hc : Calm X.A)
    (hr : Room (k + 1) X.A) (hb : Binds X.K fd ps ds) (hd : Vals dvs ds) (hx : Passes CX X E) :
    CallR X (.ref C) (fun vs H Q => ∀ x dx, H x = none → H dx = none → dx ≠ x →
      sp (.ref x :: (vs ++ dvs)) (upd (upd H dx (.own x)) x (.ins C dx [])) (fun v H2 => v = .non ∧ Q (.ref x) H2) E) := by
  intro pins s σ H vs us Q I rv h
  have n1 := I.hok.fresh (Nat.le_succ s.heap.objs.size)
  have n2 := I.hok.fresh (Nat.le_refl s.heap.objs.size)
  have hq := h (s.heap.objs.size + 1) s.heap.objs.size n1 n2 (Nat.ne_of_lt (Nat.lt_succ_self _))
  have J := Inv.made (C := C) I
  have r2 : Vals (V.ref (s.heap.objs.size + 1) :: (vs ++ dvs)) (Value.ref (s.heap.objs.size + 1) :: (us ++ ds)) :=
    .cons rfl (rv.append hd)
  have hl : (Value.ref (s.heap.objs.size + 1) :: us ++ ds).length = ps.length :=
    (r2.length.symm).trans (F.len _ _ _ _ hq)
  have cg : Calm (X.A.under (.builtin "type.__call__" ⟨.ref C :: us, []⟩)) := by
    first
      | exact hc
      | (show (X.A.under _).guards = _; simp [Around.under, Code.guards, Code.isGuard, guardIds, pushGuards, hc])
  have go := F.go _ X.stack _ _ ⟨Value.ref (s.heap.objs.size + 1) :: us, []⟩ _ _ _ E cg (hr.make C us [])
    (J.env0.make C us []) (hb _ (Value.ref (s.heap.objs.size + 1) :: us) J.kIn hl) r2 hq
  refine wpAny_call (make_map (f := f) I.kIn M.makes M.init (beq_iff_eq.mp M.fn) (codeAny_mono go ?_))
  rintro (e | fl) s' hq'
  · exact hx pins σ _ _ e s' J hq'
  · cases fl with
    | ret u =>
      obtain ⟨v, H', I3, rv3, rfl, q3⟩ := J.after hq'
      exact ⟨rv3, ⟨V.ref (s.heap.objs.size + 1), H', I3, rfl, q3⟩⟩
    | _ => exact False.elim hq'

/-- x(e, ..), whatever x is, if its value is known and it is called by values -/
theorem pe_val (hc : CallR X (.ref C) r) (hg : Gl X x) (hm : X.mg x = some (.ref C))
    (hk : PySem.W.keepIn X.K (.ref C) = true) (ha : PA X (e :: es) t)
    (hdb : (x == ("__debug__" : Str)) = false := by decide)
    (he : starEach (e :: es) X.env = (false, eval e X.env) :: starEach es X.env := by rfl)
    (hpl : (backTo pos (starEach es X.env)).any (·.1) = false := by rfl) :
    PE X (.Call (.Name x p) (e :: es) [] pos) (tCB r t) := by
  constructor
  intro pins s σ H Q I h
  refine wpAny_Call_Name_kw (ld_glob I hg hm ?_ hdb)
  refine PySem.W.callWith_K (h₀ := X.base) I.ok.mod.kin hk (thn (ha.run pos pins s σ H _ I h) ?_) he hpl
  rintro us s1 ⟨vs, H1, I1, rv, q⟩
  exact ⟨I1.kIn, hc pins s1 σ H1 vs us Q I1 rv q⟩
theorem pe_mk (M : Mk X.K C f) (F : Fn X.prog X.w X.K X.mg X.base CX k f fd ps sp) (hc : Calm X.A)
    (hr : Room (k + 1) X.A) (hg : Gl X x) (hm : X.mg x = some (.ref C)) (hb : Binds X.K fd ps ds)
    (hd : Vals dvs ds) (hx : Passes CX X E) (ha : PA X (e :: es) t)
    (hdb : (x == ("__debug__" : Str)) = false := by decide)
    (he : starEach (e :: es) X.env = (false, eval e X.env) :: starEach es X.env := by rfl)
    (hpl : (backTo pos (starEach es X.env)).any (·.1) = false := by rfl) :
    PE X (.Call (.Name x p) (e :: es) [] pos) (tMake C sp dvs E t) :=
  pe_val (callR_make M F hc hr hb hd hx) hg hm M.kp ha hdb he hpl
end

section
variable {P : Program} {w : World} {K : PySem.W.Frag} {mg : Str → Option Value} {base : Heap} {CX : CXT}
/-- a def by its body (any exceptions) -/
theorem fn_by {x qual : Str} {st : Stmt} {f : Addr} {fd : FuncData} {N ps : List Str} {k : Nat} {sp : Sp}
    (F : Fun K x qual st f fd) (S : FnScope N ps (defScope st))
    (len : ∀ vs H Q E, sp vs H Q E → vs.length = ps.length)
    (body : ∀ (cdv : Value) (A : Around) (outer : List Env) (s : Shared) (H : Hp) (vs : List V) (Q : VK) (E : XK),
      Calm A → Room k (A.deeper (envOfC qual (defScope st) s.heap.objs.size f cdv)) → sp vs H Q E →
      ∃ t, PSs (cxOf CX P w K mg base N qual (defScope st) f cdv A outer s H E) (defBody st) t ∧
        t { nx := fun _ H' => Q .non H', rt := Q } (start N vs) H) :
    Fn P w K mg base CX (k + 1) f fd ps sp := by
  obtain ⟨oc, od, kV, doc, pm, an, cdv, ct, osl, rfl, lk, hcd⟩ := F.ex
  refine ⟨len, fun A outer s H args us vs Q E hc hr e0 hb r hsp => ?_⟩
  have hl := len _ _ _ _ hsp
  have KX : K.In s.heap := e0.mod.kin.keeps fun b o e => (e0.bs b o e).1
  have lim : s.heap.NoLimit := e0.mod.nolimit.keeps fun b o e => (e0.bs b o e).1
  have hkind : ∀ y ∈ ps.zip us, (defScope st).names.lookup y.1 = some .local ∨
      ((defScope st).names.lookup y.1 = some .cell ∧
        ((cellsFrom (s.heap.objs.size + 1) (defScope st).names []).lookup y.1).isSome = true) := by
    rintro ⟨n, v⟩ hy
    rcases S.par n (List.of_mem_zip hy).1 with q | q
    · exact .inl q
    · exact .inr ⟨q, PySem.W.cellsFrom_some _ _ _ (.inl q)⟩
  have cr := PySem.W.codeRec_of KX hcd
  refine codeAny_call_function hr.depth (KX _ _ lk) rfl S.co S.gen rfl cr (hb _ _ _ _ ?_)
  refine wpAny_newFunctionEnv_cells S.kind hkind fun env he s1 z => ?_
  subst he
  refine ⟨lim.keeps z.toInCall.keep, codeAny_func ?_⟩
  obtain ⟨t, ht, hq⟩ := body cdv A outer s H vs Q E hc (hr.deeper _) hsp
  have I := inv_start (CX := CX) (E := E) S hr.hd e0 hl r z
  refine wpAny_mono (ht.run [] s1 (start N vs) H _ I hq) ?_ fun e s' hs => hs
  rintro fl s' hs
  cases fl with
  | ret u =>
    obtain ⟨v, σ', H', J, rv, q⟩ := hs
    exact ⟨v, H', J.os, J.bare, J.base, J.hok, rv, q⟩
  | next =>
    obtain ⟨σ', H', J, q⟩ := hs
    exact ⟨V.non, H', J.os, J.bare, J.base, J.hok, rfl, q⟩
  | brk =>
    obtain ⟨_, _, _, q⟩ := hs
    exact q.elim
  | cont =>
    obtain ⟨_, _, _, q⟩ := hs
    exact q.elim
/-- a def that no exception leaves -/
theorem fn_calm {x qual : Str} {st : Stmt} {f : Addr} {fd : FuncData} {N ps : List Str} {k : Nat} {sp : Sp}
    (F : Fun K x qual st f fd) (S : FnScope N ps (defScope st))
    (len : ∀ vs H Q E, sp vs H Q E → vs.length = ps.length)
    (body : ∀ (cdv : Value) (A : Around) (outer : List Env) (s : Shared) (H : Hp) (vs : List V) (Q : VK) (E : XK),
      Calm A → Room k (A.deeper (envOfC qual (defScope st) s.heap.objs.size f cdv)) → sp vs H Q E →
      ∃ t, PSs (cxOf CX0 P w K mg base N qual (defScope st) f cdv A outer s H E).nox (defBody st) t ∧
        t { nx := fun _ H' => Q .non H', rt := Q } (start N vs) H) :
    Fn P w K mg base CX0 (k + 1) f fd ps sp := by
  refine fn_by F S len fun cdv A outer s H vs Q E hc hr hsp => ?_
  obtain ⟨t, h, q⟩ := body cdv A outer s H vs Q E hc hr hsp
  exact ⟨t, h.nox, q⟩
end

/-! the end: from the promise of the law's def to the row -/
/-- what every base has: the table of modules -/
abbrev HasMods (base : Heap) : Prop := ∃ o, base.get? sysModules = some o
theorem ns_some {h : Heap} {b : Addr} {m : Str → Option Value} (n : h.Ns b m) : ∃ o es ep, h.get? b = some o ∧ o.data = .dict es ep := by
  obtain ⟨o, es, ep, e, d, _⟩ := n
  exact ⟨o, es, ep, e, d⟩

section
variable {P : Program} {w : World} {K : PySem.W.Frag} {mg mb : Str → Option Value} {k : Nat}
  {fa a : Addr} {fd : FuncData} {x : Str} {sp : Sp} {t : Shared} {vs : List Value} {ns : List Int}
/-- the law's def is called at the heap behind the top -/
theorem law_at (KX : K.In t.heap) (hns : t.heap.Ns mainGlobals mg) (hb : t.heap.Ns builtinsNs mb)
    (hbb : ∀ x : Str, x ≠ "__name__" → mb x = bootBuiltins x) (hlim : t.heap.NoLimit) {mm : Str → Option Value}
    (hmod : t.heap.Ns sysModules mm) (hg : t.gens = #[])
    (ha : t.heap.get? a = some { cls := .type "list", data := .seq vs.toArray }) (hi : IntsAre vs ns)
    (hl : ns.length ≤ sizeLine) (hr : Room k callerA)
    (F : ∀ base : Heap, K.In base → base.Ns mainGlobals mg → HasMods base → Fn P w K mg base CX0 k fa fd [x] sp)
    (hbind : ∀ (s : Shared) (u : Value), BindsTo s fd ⟨[u], []⟩ [(x, u)])
    (hsp : ∀ H : Hp, Only H → SqL K H a (ns.map V.int) → sp [.ref a] H (fun v _ => v = .bl true) fun _ _ _ => False) :
    codeAny (model P w) callerA (.call (.ref fa) ⟨[.ref a], []⟩)
      (fun r s' => r = .ok (.ret (.bool true)) ∧ OldK t.heap s'.heap ∧ s'.os = t.os ∧ AllBare s'.gens) t := by
  have rv := vals_ints hi
  have lenV := hi.length
  -- whatever is tracked at first, it is the script alone
  have core : ∀ H : Hp, Only H → SqL K H a (ns.map V.int) → HOk P w H t.heap → (∀ b, H b ≠ none → b = a) →
      (H a ≠ none → K.lookup a = none) →
      codeAny (model P w) callerA (.call (.ref fa) ⟨[.ref a], []⟩)
        (fun r s' => r = .ok (.ret (.bool true)) ∧ OldK t.heap s'.heap ∧ s'.os = t.os ∧ AllBare s'.gens) t := by
    intro H hO hS hok hA hK
    have noA : ∀ {b : Addr} {o : Obj} {es : Array DictEntry} {ep : Nat}, t.heap.get? b = some o → o.data = .dict es ep → H b = none := by
      intro b o es ep e d
      by_cases q : H b = none
      · exact q
      · have e' := hA b q
        rw [e', ha] at e
        cases e
        exact (nomatch (show Data.seq vs.toArray _ = Data.dict es ep from d))
    have nsK : ∀ {b : Addr} {m : Str → Option Value}, t.heap.Ns b m → (hidT t.heap H).Ns b m := by
      rintro b m ⟨o, es, ep, e, d, r⟩
      exact ⟨o, es, ep, hidT_get e (noA e d), d, r⟩
    have hKb : K.In (hidT t.heap H) := by
      intro b o e
      refine hidT_get (KX b o e) ?_
      by_cases q : H b = none
      · exact q
      · have e' := hA b q
        rw [e'] at e q
        rw [hK q] at e
        cases e
    have hM : Mod K mg (hidT t.heap H) := by
      obtain ⟨mc, h1, h2⟩ := hlim
      exact ⟨hKb, nsK hns, ⟨mb, nsK hb, hbb⟩, mc, nsK h1, h2⟩
    have hMods : HasMods (hidT t.heap H) := by
      obtain ⟨o, es, ep, e, d⟩ := ns_some hmod
      exact ⟨o, hidT_get e (noA e d)⟩
    have e0 : Env0 P w K mg (hidT t.heap H) callerA [] t H := by
      refine ⟨rfl, hM, fun b o e => of_hidT e, Nat.le_of_eq (hidT_size _ _), trivial, fun b hb' => ?_, hok, .of_eq hg⟩
      exact absurd (show b ∈ ([] : List Addr) from hb') (by simp)
    have go := (F _ hKb (nsK hns) hMods).go callerA [] t H ⟨[.ref a], []⟩ [.ref a] [.ref a] _ _ rfl hr e0
      (hbind t (.ref a)) (.cons rfl .nil) (hsp H hO hS)
    refine codeAny_mono go ?_
    rintro (e | fl) s' h
    · exact (show False from h).elim
    · cases fl with
      | ret u =>
        obtain ⟨v, H', os, bare, un, hok', r', rfl⟩ := h
        obtain rfl : u = Value.bool true := r'
        refine ⟨rfl, OldK.of_keep fun b o e => ?_, os, bare⟩
        by_cases q : H b = none
        · exact un.keep b o e q (by intro z; exact absurd (show b ∈ ([] : List Addr) from z) (by simp)) (by simp)
        · rcases hO b with z | ⟨ob, xs, z⟩
          · exact absurd z q
          · have z2 := un.frzs b ob _ z
            have e1 := (hok b _ z).1
            have e2 := (hok' b _ z2).1
            rw [e] at e1
            cases e1
            exact e2
      | _ => exact False.elim h
  cases hk : K.lookup a with
  | some o =>
    have e := KX a o hk
    rw [ha] at e
    cases e
    refine core (fun _ => none) (fun _ => .inl rfl) (.inr ?_) (fun b u z => ?_) (fun b z => absurd rfl z) fun z => absurd rfl z
    · exact ⟨_, vs.toArray, _, hk, rfl, rfl, rfl, by rw [List.size_toArray, lenV]; exact hl, by simpa using rv⟩
    · exact (nomatch (show (none : Option HO) = some u from z))
  | none =>
    let H : Hp := fun b => if b = a then some (.frz { cls := .type "list", data := .seq vs.toArray } (.lst (ns.map V.int))) else none
    have hHa : H a = some (.frz { cls := .type "list", data := .seq vs.toArray } (.lst (ns.map V.int))) := if_pos rfl
    have hHn : ∀ b, b ≠ a → H b = none := fun b n => if_neg n
    refine core H (fun b => ?_) (.inl (.inr ⟨_, hHa⟩)) (fun b u z => ?_) (fun b z => ?_) fun _ => hk
    · by_cases e : b = a
      · exact .inr ⟨_, _, by rw [e]; exact hHa⟩
      · exact .inl (hHn b e)
    · by_cases e : b = a
      · subst e
        rw [hHa] at z
        cases z
        exact ⟨ha, by rw [List.length_map]; exact hl, vs, _, rv, ha⟩
      · rw [hHn b e] at z
        cases z
    · by_cases e : b = a
      · exact e
      · exact absurd (hHn b e) z
end

/-- the goal that the head leaves, from the law's promise; the promise hangs on the written part alone -/
theorem walk_by {l : PySem.W.OpenLaw} {n k : Nat} {q : Program} {loose : List Str} {XP : (Str → Option Value) → Heap → Prop}
    {YP : World → Heap → Prop} {d : DefRec} {K : Params → PySem.W.Frag} {sp : PySem.W.Frag → Sp} {x : Str}
    (hn : l.most = some n) (hn2 : n ≤ sizeLine) (hdf : d.params.defaults = []) (hr : Room k callerA) (himp : importsNone q = true)
    (hY : ∀ (w : World) (h : Heap), YP w h → (K w.params).In h)
    (F : ∀ (w : World) (mg : Str → Option Value) (fa : Addr) (h : Heap), (K w.params).In h → h.Ns mainGlobals mg →
      mg d.name = some (.ref fa) → ∃ fd : FuncData, (∀ (s : Shared) (u : Value), BindsTo s fd ⟨[u], []⟩ [(x, u)]) ∧
        ∀ base : Heap, (K w.params).In base → base.Ns mainGlobals mg → HasMods base →
          Fn l.prog w (K w.params) mg base CX0 k fa fd [x] (sp (K w.params)))
    (hsp : ∀ (K : PySem.W.Frag) (H : Hp) (a : Addr) (ns : List Int), ns.length ≤ n → Only H → SqL K H a (ns.map V.int) →
      sp K [.ref a] H (fun v _ => v = .bl true) fun _ _ _ => False) :
    PySem.W.WalkO q loose XP YP l.row.toRowW d [] (fun f vs => PySem.call f vs) := by
  refine Att.attach_call hn hdf fun w s₀ t mg mb fa o pm cd doc a vs ns G Y ho hd hcd hmg hobj hints hlen hg => ?_
  have KX := hY w _ Y
  obtain ⟨fd, hb, hF⟩ := F w mg fa _ KX G.T.g hmg
  obtain ⟨mm, hmm⟩ : ∃ mm, t.heap.Ns sysModules mm := by
    obtain ⟨mm, z, _⟩ := (G.T.seer himp).mods
    exact ⟨mm, z⟩
  exact law_at KX G.T.g G.T.b G.T.builtins G.T.nolimit hmm hg hobj hints (Nat.le_trans hlen hn2) hr hF hb
    fun H hO hS => hsp _ H a ns hlen hO hS
end G

set_option Elab.async false
set_option linter.all false
set_option maxRecDepth 100000
set_option maxHeartbeats 4000000
/-! Data as trees, with instances as leaves: what stands in the heap, repr, ==, isinstance. -/
namespace D
open PySem PySem.Spec PyProof.Rows L2 G

inductive Dat where
  | non | bl (b : Bool) | int (i : Int) | str (x : Str)
  | lst (xs : List Dat) | tup (xs : List Dat)
  | dct (ks : List Key) (vs : List Dat)
  | obj (C a : Addr)

/-- what isinstance must know of a class of one's own -/
structure OwnC (K : PySem.W.Frag) (C : Addr) : Prop where
  cl : Cls K C
  ha : PySem.W.findIn K (.ref C) "__class__" = some (some (.builtin "object.__class__"))
  hn : PySem.W.specialIn K (.builtin "object.__class__") "__get__" = some (some (.builtin "getset_descriptor.__get__"))
  ht : PySem.W.takesIn K (.builtin "object.__class__") = some true
  hm : PySem.W.mroIn K C (.type "object") = some true
  i1 : PySem.W.kitOne K (.ref C) (.type "int") = some false
  i2 : PySem.W.kitOne K (.ref C) (.type "bool") = some false
  i3 : PySem.W.kitOne K (.ref C) (.type "str") = some false
  i4 : PySem.W.kitOne K (.ref C) (.type "list") = some false
  i5 : PySem.W.kitOne K (.ref C) (.type "tuple") = some false
  i6 : PySem.W.kitOne K (.ref C) (.type "dict") = some false

section
variable (K : PySem.W.Frag) (H : Hp)
mutual
/-- v stands for the tree, in H -/
def Rep : V → Dat → Prop
  | v, .non => v = .non
  | v, .bl b => v = .bl b
  | v, .int i => v = .int i
  | v, .str x => v = .str x
  | v, .lst ds => ∃ a xs, v = .ref a ∧ H a = some (.lst xs) ∧ RepAll xs ds
  | v, .tup ds => ∃ a xs, v = .ref a ∧ H a = some (.tup xs) ∧ RepAll xs ds
  | v, .dct ks ds => ∃ a kvs, v = .ref a ∧ H a = some (.dK kvs) ∧ kvs.map (·.1) = ks ∧ RepAll (kvs.map (·.2)) ds
  | v, .obj C a => v = .ref a ∧ OwnC K C ∧ ∃ dx fs, H a = some (.ins C dx fs)
def RepAll : List V → List Dat → Prop
  | vs, [] => vs = []
  | vs, d :: ds => ∃ v r, vs = v :: r ∧ Rep v d ∧ RepAll r ds
end
end

section
variable {K : PySem.W.Frag} {H H' : Hp}
mutual
theorem Rep.mono (h : Same H H') : ∀ (d : Dat) {v : V}, Rep K H v d → Rep K H' v d
  | .non, _, r => r
  | .bl _, _, r => r
  | .int _, _, r => r
  | .str _, _, r => r
  | .lst ds, _, ⟨a, xs, e, q, r⟩ => ⟨a, xs, e, h _ _ q, RepAll.mono h ds r⟩
  | .tup ds, _, ⟨a, xs, e, q, r⟩ => ⟨a, xs, e, h _ _ q, RepAll.mono h ds r⟩
  | .dct _ ds, _, ⟨a, kvs, e, q, k, r⟩ => ⟨a, kvs, e, h _ _ q, k, RepAll.mono h ds r⟩
  | .obj _ _, _, ⟨e, o, dx, fs, q⟩ => ⟨e, o, dx, fs, h _ _ q⟩
theorem RepAll.mono (h : Same H H') : ∀ (ds : List Dat) {vs : List V}, RepAll K H vs ds → RepAll K H' vs ds
  | [], _, r => r
  | d :: ds, _, ⟨v, r, e, q, t⟩ => ⟨v, r, e, Rep.mono h d q, RepAll.mono h ds t⟩
end
theorem RepAll.length : ∀ {ds : List Dat} {vs : List V}, RepAll K H vs ds → vs.length = ds.length
  | [], _, r => by cases (show _ = [] from r); rfl
  | _ :: ds, _, ⟨v, r, e, _, t⟩ => by subst e; simp [RepAll.length t]
theorem RepAll.get : ∀ {ds : List Dat} {vs : List V} {i : Nat} {v : V}, RepAll K H vs ds → vs[i]? = some v → ∃ d, ds[i]? = some d ∧ Rep K H v d
  | [], _, i, v, r, e => by cases (show _ = [] from r); simp at e
  | d :: ds, _, 0, v, ⟨w, r, e', q, t⟩, e => by subst e'; simp at e; subst e; exact ⟨d, rfl, q⟩
  | d :: ds, _, i + 1, v, ⟨w, r, e', q, t⟩, e => by
    subst e'
    obtain ⟨d', h1, h2⟩ := RepAll.get (i := i) (v := v) t (by simpa using e)
    exact ⟨d', by simpa using h1, h2⟩
theorem RepAll.nth : ∀ {ds : List Dat} {vs : List V} {i : Nat} {d : Dat}, RepAll K H vs ds → ds[i]? = some d → ∃ v, vs[i]? = some v ∧ Rep K H v d
  | [], _, i, d, r, e => by simp at e
  | d :: ds, _, 0, d', ⟨w, r, e', q, t⟩, e => by subst e'; simp at e; subst e; exact ⟨w, rfl, q⟩
  | d :: ds, _, i + 1, d', ⟨w, r, e', q, t⟩, e => by
    subst e'
    obtain ⟨v, h1, h2⟩ := RepAll.nth (i := i) (d := d') t (by simpa using e)
    exact ⟨v, by simpa using h1, h2⟩
theorem RepAll.append : ∀ {ds es : List Dat} {vs us : List V}, RepAll K H vs ds → RepAll K H us es → RepAll K H (vs ++ us) (ds ++ es)
  | [], _, _, _, r, q => by cases (show _ = [] from r); exact q
  | _ :: ds, _, _, _, ⟨v, r, e, a, t⟩, q => by subst e; exact ⟨v, _, rfl, a, RepAll.append t q⟩
theorem RepAll.one {v : V} {d : Dat} (h : Rep K H v d) : RepAll K H [v] [d] := ⟨v, [], rfl, h, rfl⟩
theorem RepAll.set : ∀ {ds : List Dat} {vs : List V} (i : Nat) {v : V} {d : Dat}, RepAll K H vs ds → Rep K H v d → RepAll K H (vs.set i v) (ds.set i d)
  | [], _, i, v, d, r, q => by cases (show _ = [] from r); exact rfl
  | _ :: ds, _, 0, v, d, ⟨w, r, e, a, t⟩, q => by subst e; exact ⟨v, r, rfl, q, t⟩
  | _ :: ds, _, i + 1, v, d, ⟨w, r, e, a, t⟩, q => by subst e; exact ⟨w, _, rfl, a, RepAll.set i t q⟩
theorem RepAll.take : ∀ {ds : List Dat} {vs : List V} (n : Nat), RepAll K H vs ds → RepAll K H (vs.take n) (ds.take n)
  | [], _, n, r => by cases (show _ = [] from r); simp; exact rfl
  | _ :: ds, _, 0, ⟨w, r, e, a, t⟩ => by subst e; exact rfl
  | _ :: ds, _, n + 1, ⟨w, r, e, a, t⟩ => by subst e; exact ⟨w, _, rfl, a, RepAll.take n t⟩
theorem RepAll.drop : ∀ {ds : List Dat} {vs : List V} (n : Nat), RepAll K H vs ds → RepAll K H (vs.drop n) (ds.drop n)
  | [], _, n, r => by cases (show _ = [] from r); simp; exact rfl
  | _ :: ds, _, 0, ⟨w, r, e, a, t⟩ => by subst e; exact ⟨w, r, rfl, a, t⟩
  | _ :: ds, _, n + 1, ⟨w, r, e, a, t⟩ => by subst e; exact RepAll.drop n t
/-- texts alone -/
theorem RepAll.strs : ∀ {xs : List Str} {vs : List V}, RepAll K H vs (xs.map Dat.str) → vs = xs.map V.str
  | [], _, r => r
  | x :: xs, _, ⟨v, r, e, q, t⟩ => by
    subst e
    rw [show v = V.str x from q, RepAll.strs (xs := xs) t]
    rfl
theorem RepAll.of_strs : ∀ (xs : List Str), RepAll K H (xs.map V.str) (xs.map Dat.str)
  | [] => rfl
  | x :: xs => ⟨_, _, rfl, rfl, RepAll.of_strs xs⟩
theorem RepAll.of_bls : ∀ (xs : List Bool), RepAll K H (xs.map V.bl) (xs.map Dat.bl)
  | [] => rfl
  | x :: xs => ⟨_, _, rfl, rfl, RepAll.of_bls xs⟩
end

/-! ### data of the library -/
def keyD : Key → PyData
  | .inl i => .int i
  | .inr x => .str x
mutual
def Dat.py : Dat → PyData
  | .non => .none
  | .bl b => .bool b
  | .int i => .int i
  | .str x => .str x
  | .lst ds => .list (pyAll ds)
  | .tup ds => .tuple (pyAll ds)
  | .dct ks ds => .dict ((ks.map keyD).zip (pyAll ds))
  | .obj _ _ => .none
def pyAll : List Dat → List PyData
  | [] => []
  | d :: ds => d.py :: pyAll ds
end
mutual
/-- no instance in it -/
def Dat.pure : Dat → Bool
  | .lst ds => pureAll ds
  | .tup ds => pureAll ds
  | .dct _ ds => pureAll ds
  | .obj _ _ => false
  | _ => true
def pureAll : List Dat → Bool
  | [] => true
  | d :: ds => d.pure && pureAll ds
end
theorem pyAll_map : ∀ ds : List Dat, pyAll ds = ds.map Dat.py
  | [] => rfl
  | d :: ds => by rw [pyAll, pyAll_map ds]; rfl
theorem pureAll_all : ∀ ds : List Dat, pureAll ds = ds.all Dat.pure
  | [] => rfl
  | d :: ds => by rw [pureAll, pureAll_all ds]; rfl

section
variable {X : Cx} {pins : List (Addr × Obj)} {σ : L2.St} {H : Hp} {s : Shared}
theorem tracked_ne (I : Inv X pins σ H s) {a : Addr} {o : HO} (h : H a = some o) : a ≠ sysModules ∨ True := .inr trivial

theorem keys_read {h : Heap} : ∀ {es : List DictEntry} {kvs : List (Key × Value)} {P : Program} {w : World}, Pairs (mixKind P w) es kvs →
    ReadsAll h (es.map (·.key)) ((kvs.map (·.1)).map keyD) [] ∧ es.map (·.val) = kvs.map (·.2) := by
  intro es kvs P w h1
  induction h1 with
  | nil => exact ⟨.nil, rfl⟩
  | @cons e kv es kvs hk hv _ ih =>
    refine ⟨?_, by rw [List.map_cons, List.map_cons, ih.2, hv]⟩
    have hk' : keyIs kv.1 e.key = true := hk
    have q : Reads h e.key (keyD kv.1) [] := by
      rcases keyIs_shape hk' with ⟨i, t, e1, e2⟩ | ⟨x, t, e1, e2⟩
      · rw [e1, e2]; exact Reads.int i t
      · rw [e1, e2]; exact Reads.str x t
    exact ReadsAll.cons (as := []) (bs := []) q ih.1
theorem kv_vals : ∀ {kvs : List (Key × V)} {vs : List (Key × Value)}, KV kvs vs → kvs.map (·.1) = vs.map (·.1) ∧ Vals (kvs.map (·.2)) (vs.map (·.2)) := by
  intro kvs vs h
  unfold KV at h
  induction h with
  | nil => exact ⟨rfl, .nil⟩
  | cons a _ ih => exact ⟨by rw [List.map_cons, List.map_cons, a.1, ih.1], .cons a.2 ih.2⟩

mutual
theorem Rep.reads (I : Inv X pins σ H s) : ∀ (d : Dat) (v : V) (u : Value), Rep X.K H v d → d.pure = true → RelV v u →
    ∃ as, Reads s.heap u d.py as ∧ ∀ b ∈ as, ∃ o, H b = some o ∧ ((∃ xs, o = .lst xs) ∨ ∃ kvs, o = .dK kvs)
  | .non, v, u, h, p, r => by
    cases (show v = .non from h)
    cases (show u = _ from r)
    exact ⟨[], .none, fun _ z => by simp at z⟩
  | .bl b, v, u, h, p, r => by
    cases (show v = .bl b from h)
    cases (show u = _ from r)
    exact ⟨[], .bool b, fun _ z => by simp at z⟩
  | .int i, v, u, h, p, r => by
    cases (show v = .int i from h)
    obtain ⟨t, rfl⟩ := (show ∃ t, u = Value.int i t from r)
    exact ⟨[], .int i t, fun _ z => by simp at z⟩
  | .str x, v, u, h, p, r => by
    cases (show v = .str x from h)
    obtain ⟨t, rfl⟩ := (show ∃ t, u = Value.str x t from r)
    exact ⟨[], .str x t, fun _ z => by simp at z⟩
  | .lst ds, v, u, h, p, r => by
    obtain ⟨a, xs, rfl, ha, hs⟩ := h
    cases (show u = Value.ref a from r)
    obtain ⟨_, its, n, rv, ho⟩ := (show ObjOk X.prog X.w H s.heap a (.lst xs) from I.hok a _ ha)
    obtain ⟨as, q, k⟩ := RepAll.reads I ds xs its hs p rv
    refine ⟨a :: as, .list ho rfl rfl q, fun b z => ?_⟩
    rcases List.mem_cons.mp z with rfl | z
    · exact ⟨_, ha, .inl ⟨_, rfl⟩⟩
    · exact k b z
  | .tup ds, v, u, h, p, r => by
    obtain ⟨a, xs, rfl, ha, hs⟩ := h
    cases (show u = Value.ref a from r)
    obtain ⟨_, its, rv, o, ho, hc, n, hd⟩ := (show ObjOk X.prog X.w H s.heap a (.tup xs) from I.hok a _ ha)
    obtain ⟨as, q, k⟩ := RepAll.reads I ds xs its hs p rv
    exact ⟨as, .tuple ho hc hd q, k⟩
  | .dct ks ds, v, u, h, p, r => by
    obtain ⟨a, kvs, rfl, ha, hk, hs⟩ := h
    cases (show u = Value.ref a from r)
    obtain ⟨_, _, vs, rv, o, es, ep, ho, hx, hd, _, hp, _⟩ := (show ObjOk X.prog X.w H s.heap a (.dK kvs) from I.hok a _ ha)
    obtain ⟨e1, e2⟩ := kv_vals rv
    obtain ⟨k1, k2⟩ := keys_read (h := s.heap) hp
    obtain ⟨as, q, k⟩ := RepAll.reads I ds _ _ hs p e2
    have len : (ks.map keyD).length = (pyAll ds).length := by
      rw [pyAll_map, List.length_map, List.length_map, ← hs.length, ← hk, List.length_map, List.length_map]
    refine ⟨a :: [] ++ as, .dict ho hx.1 hd (?_ : ReadsAll _ _ _ []) (?_ : ReadsAll _ _ _ as), fun b z => ?_⟩
    · rw [List.map_fst_zip (Nat.le_of_eq len), ← hk, e1]; exact k1
    · rw [List.map_snd_zip (Nat.le_of_eq len.symm), k2]; exact q
    · rcases List.mem_cons.mp z with rfl | z
      · exact ⟨_, ha, .inr ⟨_, rfl⟩⟩
      · exact k b z
  | .obj C a, _, _, _, p, _ => by cases (show false = true from p)
theorem RepAll.reads (I : Inv X pins σ H s) : ∀ (ds : List Dat) (vs : List V) (us : List Value), RepAll X.K H vs ds → pureAll ds = true → Vals vs us →
    ∃ as, ReadsAll s.heap us (pyAll ds) as ∧ ∀ b ∈ as, ∃ o, H b = some o ∧ ((∃ xs, o = .lst xs) ∨ ∃ kvs, o = .dK kvs)
  | [], vs, us, h, _, r => by
    cases (show vs = [] from h)
    cases r
    exact ⟨[], .nil, fun _ z => by simp at z⟩
  | d :: ds, vs, us, h, p, r => by
    obtain ⟨v, t, rfl, h1, h2⟩ := h
    have p' : (d.pure && pureAll ds) = true := p
    rw [Bool.and_eq_true] at p'
    cases r with
    | cons r1 r2 =>
      obtain ⟨as, q1, k1⟩ := Rep.reads I d v _ h1 p'.1 r1
      obtain ⟨bs, q2, k2⟩ := RepAll.reads I ds t _ h2 p'.2 r2
      refine ⟨as ++ bs, .cons q1 q2, fun b z => ?_⟩
      rcases List.mem_append.mp z with z | z
      · exact k1 b z
      · exact k2 b z
end
end

/-! ### repr -/
def Dat.dep : Dat → Nat := fun d => d.py.depth
/-- fit to be shown: no instance, small enough at every place -/
structure Fine (k n : Nat) (d : Dat) : Prop where
  pu : d.pure = true
  sh : d.py.showable = true
  dp : d.py.depth ≤ k
  ln : d.py.shown.length ≤ n
theorem Fine.mono {k n k' n' : Nat} {d : Dat} (h : Fine k n d) (a : k ≤ k') (b : n ≤ n') : Fine k' n' d :=
  ⟨h.pu, h.sh, Nat.le_trans h.dp a, Nat.le_trans h.ln b⟩
theorem fine_all {k n : Nat} : ∀ {ds : List Dat}, (∀ d ∈ ds, Fine k n d) → pureAll ds = true ∧ PyData.showableAll (pyAll ds) = true ∧
    PyData.depthAll (pyAll ds) ≤ k ∧ ((PyData.shownAll (pyAll ds)).map (·.length)).sum ≤ ds.length * n ∧ (PyData.shownAll (pyAll ds)).length = ds.length
  | [], _ => ⟨rfl, by simp [pyAll, PyData.showableAll], by simp [pyAll, PyData.depthAll], by simp [pyAll, PyData.shownAll], by simp [pyAll, PyData.shownAll]⟩
  | d :: ds, h => by
    obtain ⟨a, b, c, e, f⟩ := fine_all (ds := ds) fun x hx => h x (List.mem_cons_of_mem _ hx)
    have q := h d List.mem_cons_self
    refine ⟨?_, ?_, ?_, ?_, ?_⟩
    · simp [pureAll, a, q.pu]
    · simp [pyAll, PyData.showableAll, b, q.sh]
    · simp only [pyAll, PyData.depthAll]
      have := q.dp
      omega
    · simp only [pyAll, PyData.shownAll, List.map_cons, List.sum_cons, List.length_cons]
      have := q.ln
      rw [Nat.add_mul]
      omega
    · simp only [pyAll, PyData.shownAll, List.length_cons, f]
theorem fine_lst {k n m : Nat} {ds : List Dat} (h : ∀ d ∈ ds, Fine k n d) (hm : ds.length ≤ m) : Fine (k + 1) (m * (n + 2) + 3) (.lst ds) := by
  obtain ⟨a, b, c, e, f⟩ := fine_all h
  refine ⟨a, ?_, ?_, ?_⟩
  · simp only [Dat.py, PyData.showable, b]
  · simp only [Dat.py, PyData.depth]; omega
  · simp only [Dat.py, PyData.shown]
    refine Nat.le_trans (listText_len_le _) ?_
    have h1 : ds.length * n ≤ m * n := Nat.mul_le_mul_right _ hm
    rw [f, Nat.mul_add]
    omega
theorem fine_tup {k n m : Nat} {ds : List Dat} (h : ∀ d ∈ ds, Fine k n d) (hm : ds.length ≤ m) : Fine (k + 1) (m * (n + 2) + 3) (.tup ds) := by
  obtain ⟨a, b, c, e, f⟩ := fine_all h
  refine ⟨a, ?_, ?_, ?_⟩
  · simp only [Dat.py, PyData.showable, b]
  · simp only [Dat.py, PyData.depth]; omega
  · simp only [Dat.py, PyData.shown]
    refine Nat.le_trans (tupleText_len_le _) ?_
    have h1 : ds.length * n ≤ m * n := Nat.mul_le_mul_right _ hm
    rw [f, Nat.mul_add]
    omega
theorem fine_str {n : Nat} {x : Str} (h : (reprText x).length ≤ n) : Fine 1 n (.str x) := ⟨rfl, by simp [Dat.py, PyData.showable], by simp [Dat.py, PyData.depth], by simpa [Dat.py, PyData.shown] using h⟩
theorem fine_bl (b : Bool) : Fine 1 5 (.bl b) := by
  refine ⟨rfl, by simp [Dat.py, PyData.showable], by simp [Dat.py, PyData.depth], ?_⟩
  cases b <;> simp only [Dat.py, PyData.shown] <;> decide
theorem fine_non : Fine 1 5 .non := by
  refine ⟨rfl, by simp [Dat.py, PyData.showable], by simp [Dat.py, PyData.depth], ?_⟩
  simp only [Dat.py, PyData.shown]; decide

section
variable {X : Cx}
def rRepr (K : PySem.W.Frag) : List V → Hp → VK → Prop := fun vs H Q => ∃ v d, vs = [v] ∧ Rep K H v d ∧ Fine 100 sizeLine d ∧ Q (.str d.py.shown) H
theorem low_mods (I : Inv X pins σ H s) (hM : HasMods X.base) {b : Addr} {o : HO} (h : H b = some o) : b ≠ sysModules := by
  rintro rfl
  obtain ⟨o', e⟩ := hM
  rw [(I.bs _ _ e).2] at h
  cases h
theorem call_repr (hc : Calm X.A) (hM : HasMods X.base) (hu : X.A.units + 110 < cLine) : CallR X (.builtin "repr") (rRepr X.K) := by
  intro pins s σ H vs us Q I r h
  obtain ⟨v, d, rfl, hv, hf, q⟩ := h
  obtain ⟨u, rfl, ru⟩ := vals1 r
  obtain ⟨as, hr, k⟩ := Rep.reads I d v u hv hf.pu ru
  have hsm : d.py.hasDict = true → sysModules ∉ as := fun _ z => by
    obtain ⟨o, e, _⟩ := k _ z
    exact low_mods I hM e rfl
  have fin : ∀ (h' : Heap) (t : Tok) (tk : Nat), (∀ b o, s.heap.get? b = some o → h'.get? b = some o) →
      EP X pins σ Q (.str d.py.shown t) { s with heap := h', toks := tk } := fun h' t tk hk =>
    ⟨.str _, H, I.kept hk, ⟨t, rfl⟩, q⟩
  have hdp := hf.dp
  have byRef : ∀ a, u = Value.ref a → wpAny (model X.prog X.w) X.A (call (.builtin "repr") [u]) (EP X pins σ Q) X.xe s := by
    rintro a rfl
    exact repr_of_reads' hr hf.sh hsm hc (by omega) (fun _ _ e => e) fin hf.ln
  cases d with
  | obj C a => cases (show false = true from hf.pu)
  | lst ds => obtain ⟨a, _, rfl, _⟩ := hv; exact byRef a ru
  | tup ds => obtain ⟨a, _, rfl, _⟩ := hv; exact byRef a ru
  | dct ks ds => obtain ⟨a, _, rfl, _⟩ := hv; exact byRef a ru
  | non =>
    cases (show v = V.non from hv)
    cases (show u = _ from ru)
    exact P.repr_of_none ⟨.str _, H, I.tok _, ⟨s.toks, by simp only [Dat.py, PyData.shown]⟩, q⟩
  | bl b =>
    cases (show v = V.bl b from hv)
    cases (show u = _ from ru)
    exact P.repr_of_bool ⟨.str _, H, I.tok _, ⟨s.toks, by cases b <;> simp only [Dat.py, PyData.shown]⟩, q⟩
  | int i =>
    cases (show v = V.int i from hv)
    obtain ⟨t, rfl⟩ := (show ∃ t, u = Value.int i t from ru)
    have hs := hf.sh
    simp only [Dat.py, PyData.showable, decide_eq_true_eq] at hs
    exact P.repr_of_int hs ⟨.str _, H, I.tok _, ⟨s.toks, by simp only [Dat.py, PyData.shown]⟩, q⟩
  | str x =>
    cases (show v = V.str x from hv)
    obtain ⟨t, rfl⟩ := (show ∃ t, u = Value.str x t from ru)
    have hl := hf.ln
    simp only [Dat.py, PyData.shown] at hl
    exact P.repr_of_str ⟨.str _, H, I.tok _, ⟨s.toks, by simp only [Dat.py, PyData.shown]⟩, q⟩ hl
end

/-! ### what isinstance says -/
def Dat.ty : Dat → Value
  | .non => .type "NoneType"
  | .bl _ => .type "bool"
  | .int _ => .type "int"
  | .str _ => .type "str"
  | .lst _ => .type "list"
  | .tup _ => .type "tuple"
  | .dct _ _ => .type "dict"
  | .obj C _ => .ref C
def Dat.isStr : Dat → Bool
  | .str _ => true
  | _ => false
def Dat.isTup : Dat → Bool
  | .tup _ => true
  | _ => false
def Dat.isSeq : Dat → Bool
  | .tup _ => true
  | .lst _ => true
  | _ => false
def Dat.isInt : Dat → Bool
  | .int _ => true
  | .bl _ => true
  | _ => false
def Dat.isBl : Dat → Bool
  | .bl _ => true
  | _ => false
section
variable {K : PySem.W.Frag} {H : Hp}
theorem Rep.ty {d : Dat} {v : V} (h : Rep K H v d) : TyX K H v d.ty := by
  cases d with
  | non => cases (show v = V.non from h); exact .base .non
  | bl b => cases (show v = V.bl b from h); exact .base (.bl b)
  | int i => cases (show v = V.int i from h); exact .base (.int i)
  | str x => cases (show v = V.str x from h); exact .base (.str x)
  | lst ds => obtain ⟨a, xs, rfl, e, _⟩ := h; exact .base (.lst e)
  | tup ds => obtain ⟨a, xs, rfl, e, _⟩ := h; exact .base (.tup e)
  | dct ks ds => obtain ⟨a, xs, rfl, e, _⟩ := h; exact .base (.dK e)
  | obj C a => obtain ⟨rfl, o, dx, fs, e⟩ := h; exact .base (.ins e o.cl o.ha o.hn o.ht o.hm)
theorem kit_str {d : Dat} {v : V} (h : Rep K H v d) : PySem.W.kitOne K d.ty (.type "str") = some d.isStr := by
  cases d with
  | obj C a => exact h.2.1.i3
  | _ => first | exact kit_ty (r := true) (by decide +kernel) | exact kit_ty (r := false) (by decide +kernel)
theorem kit_tup {d : Dat} {v : V} (h : Rep K H v d) : PySem.W.kitOne K d.ty (.type "tuple") = some d.isTup := by
  cases d with
  | obj C a => exact h.2.1.i5
  | _ => first | exact kit_ty (r := true) (by decide +kernel) | exact kit_ty (r := false) (by decide +kernel)
theorem kit_int {d : Dat} {v : V} (h : Rep K H v d) : PySem.W.kitOne K d.ty (.type "int") = some d.isInt := by
  cases d with
  | obj C a => exact h.2.1.i1
  | _ => first | exact kit_ty (r := true) (by decide +kernel) | exact kit_ty (r := false) (by decide +kernel)
theorem kit_bl {d : Dat} {v : V} (h : Rep K H v d) : PySem.W.kitOne K d.ty (.type "bool") = some d.isBl := by
  cases d with
  | obj C a => exact h.2.1.i2
  | _ => first | exact kit_ty (r := true) (by decide +kernel) | exact kit_ty (r := false) (by decide +kernel)
theorem kit_seq {d : Dat} {v : V} (h : Rep K H v d) : PySem.W.kitAny K d.ty [.type "list", .type "tuple"] = some d.isSeq := by
  cases d with
  | obj C a => exact kitAny_cons h.2.1.i4 (fun _ => kitAny_cons h.2.1.i5 (fun _ => rfl) fun z => by cases z) fun z => by cases z
  | lst ds => exact kitAny_cons (b := true) (kit_ty (by decide +kernel)) (fun z => by cases z) fun _ => rfl
  | tup ds => exact kitAny_cons (b := false) (kit_ty (by decide +kernel)) (fun _ => kitAny_cons (b := true) (kit_ty (by decide +kernel)) (fun z => by cases z) fun _ => rfl) fun z => by cases z
  | _ => exact kitAny_cons (b := false) (kit_ty (by decide +kernel)) (fun _ => kitAny_cons (b := false) (kit_ty (by decide +kernel)) (fun _ => rfl) fun z => by cases z) fun z => by cases z
end

/-! ### == against a text, against the empty tuple, the empty list -/
def Dat.isThe (t : Str) : Dat → Bool
  | .str x => x == t
  | _ => false
def Dat.noObj : Dat → Bool
  | .obj _ _ => false
  | _ => true
section
open PySem.SeqAt PySem.MeetsSeq
theorem dict_declines_str (l : Addr) (es : Array DictEntry) (n : Nat) (dd : Option Addr) (sl : Array (Option Value)) (b : Str) (u : Tok) :
    Meets (Builtin.«dict.__eq__» ⟨[.ref l, .str b u], []⟩)
      (fun _ R s => s.heap.get? l = some { cls := .type "dict", dict := dd, data := .dict es n, slots := sl } ∧ R (.ok (.ret .notImplemented)) s) :=
  .of_wp fun prog w A R s h => by
    obtain ⟨hp, g, d, tk, os⟩ := s
    obtain ⟨hl, h⟩ := h
    have f1 := F.sub_str_dict
    wp_walk using wpAny_loadPart' hl
    exact ⟨_, rfl, h⟩
theorem str_declines_dict (b : Str) (u : Tok) (l : Addr) (es : Array DictEntry) (n : Nat) (dd : Option Addr) (sl : Array (Option Value)) :
    Meets (Builtin.«str.__eq__» ⟨[.str b u, .ref l], []⟩)
      (fun _ R s => s.heap.get? l = some { cls := .type "dict", dict := dd, data := .dict es n, slots := sl } ∧ R (.ok (.ret .notImplemented)) s) :=
  .of_wp fun prog w A R s h => by
    obtain ⟨hp, g, d, tk, os⟩ := s
    obtain ⟨hl, h⟩ := h
    wp_walk using wpAny_loadPart' hl, wpAny_load hl
    exact ⟨_, rfl, h⟩
theorem rc_dict_str {A : Around} {s : Shared} {l : Addr} {o : Obj} {es : Array DictEntry} {n : Nat} (b : Str) (u : Tok)
    (ho : s.heap.get? l = some o) (hx : o.cls = .type "dict") (hd : o.data = .dict es n) (hu : A.units < cLine) :
    RcAt A s (.ref l) (.str b u) false := fun prog w E Q h => by
  obtain ⟨cls, dd, data, sl⟩ := o
  simp only at hx hd
  subst hx hd
  exact rc_eq_decline_or (k := false) ⟨_, ho, rfl⟩ (typeIs_str s b u) (by decide) F.sub_str_dict F.slot_dict_eq F.slot_str_eq_refl
    (fun _ hq => call_meets F.slot_dict_eq ⟨_, ho, rfl⟩ F.entry_dict_eq (F.args_dict_eq_2 _ _) (dict_declines_str l es n dd sl b u) ⟨ho, hq⟩)
    (fun _ hq => call_meets F.slot_str_eq_refl (typeIs_str s b u) F.entry_str_eq (F.args_str_eq_2 _ _) (str_declines_dict b u l es n dd sl) ⟨ho, hq⟩)
    (fun _ hq => wpAny_of_eq (rfl : isSame (.ref l) (.str b u) = pure false) hq) (.inr hu) h
end
section
variable {X : Cx} {pins : List (Addr × Obj)} {σ : L2.St} {H : Hp} {s : Shared}
open PySem.SeqAt
theorem rc_str (I : Inv X pins σ H s) {A : Around} (hu : A.units < cLine) {d : Dat} {v : V} {u : Value} {t : Str} {tk : Tok} (h : Rep X.K H v d) (hn : d.noObj = true)
    (r : RelV v u) : RcAt A s u (.str t tk) (d.isThe t) := by
  cases d with
  | non =>
    cases (show v = V.non from h)
    cases (show u = _ from r)
    exact .none_str t tk
  | bl b =>
    cases (show v = V.bl b from h)
    cases (show u = _ from r)
    exact .bool_str b t tk
  | int i =>
    cases (show v = V.int i from h)
    obtain ⟨k, rfl⟩ := (show ∃ t, u = Value.int i t from r)
    exact .int_str i k t tk
  | str x =>
    cases (show v = V.str x from h)
    obtain ⟨k, rfl⟩ := (show ∃ t, u = Value.str x t from r)
    exact .str_str x k t tk
  | lst ds =>
    obtain ⟨a, xs, rfl, e, _⟩ := h
    cases (show u = Value.ref a from r)
    obtain ⟨_, its, n, rv, ho⟩ := (show ObjOk X.prog X.w H s.heap a (.lst xs) from I.hok a _ e)
    exact .list_str t tk ⟨_, ho, rfl, _, rfl⟩ hu
  | tup ds =>
    obtain ⟨a, xs, rfl, e, _⟩ := h
    cases (show u = Value.ref a from r)
    obtain ⟨_, its, rv, o, ho, hc, n, hd⟩ := (show ObjOk X.prog X.w H s.heap a (.tup xs) from I.hok a _ e)
    exact .tuple_str (items := its.toArray) t tk ⟨o, ho, hc, n, hd⟩ hu
  | dct ks ds =>
    obtain ⟨a, kvs, rfl, e, _⟩ := h
    cases (show u = Value.ref a from r)
    obtain ⟨_, _, vs, rv, o, es, ep, ho, hx, hd, _⟩ := (show ObjOk X.prog X.w H s.heap a (.dK kvs) from I.hok a _ e)
    exact rc_dict_str t tk ho hx.1 hd hu
  | obj C a => cases (show false = true from hn)
end
section
variable {X : Cx}
def rEqStr (K : PySem.W.Frag) : R2 := fun x y H Q => ∃ d t, Rep K H x d ∧ d.noObj = true ∧ y = .str t ∧ Q (.bl (d.isThe t)) H
theorem op_eq_str (hu : X.A.units + 1 < cLine) : OpR X (compareOp .Eq) (rEqStr X.K) := by
  intro pins s σ H x y v u Q I rx ry h
  obtain ⟨d, t, hd, hn, rfl, q⟩ := h
  obtain ⟨tk, rfl⟩ := (show ∃ t', u = Value.str t t' from ry)
  exact rc_str I (by omega) hd hn rx X.prog X.w _ _ ⟨.bl _, H, I, rfl, q⟩
/-- a tuple against the empty one -/
def rEqTup0 : R2 := fun x y H Q => ∃ a b xs, x = .ref a ∧ H a = some (.tup xs) ∧ y = .ref b ∧ H b = some (.tup []) ∧ Q (.bl xs.isEmpty) H
open PySem.SeqAt in
theorem op_eq_tup0 (hu : X.A.units + 1 < cLine) : OpR X (compareOp .Eq) rEqTup0 := by
  intro pins s σ H x y v u Q I rx ry h
  obtain ⟨a, b, xs, rfl, ea, rfl, eb, q⟩ := h
  cases (show v = Value.ref a from rx)
  cases (show u = Value.ref b from ry)
  obtain ⟨_, its, rv, o, ho, hc, n, hd⟩ := (show ObjOk X.prog X.w H s.heap a (.tup xs) from I.hok a _ ea)
  obtain ⟨_, itb, rb, p, hp, hpc, m, hpd⟩ := (show ObjOk X.prog X.w H s.heap b (.tup []) from I.hok b _ eb)
  cases rb
  have z := RcAt.tuples (A := X.A) (s := s) (e := fun _ => true) (items := its.toArray) (items2 := #[]) ⟨o, ho, hc, n, hd⟩ ⟨p, hp, hpc, m, hpd⟩ (by omega)
    (fun j h1 h2 => absurd h2 (Nat.not_lt_zero j))
  refine z X.prog X.w _ _ ⟨.bl _, H, I, ?_, q⟩
  show Value.bool _ = Value.bool _
  have e : its.length = xs.length := rv.length.symm
  cases xs with
  | nil =>
    have e0 : its = [] := List.eq_nil_of_length_eq_zero e
    subst e0
    rfl
  | cons x xs =>
    cases its with
    | nil => cases e
    | cons i is => simp
/-- a list against the empty one -/
def rEqLst0 (K : PySem.W.Frag) : R2 := fun x y H Q => ∃ a b xs, x = .ref a ∧ H a = some (.lst xs) ∧ y = .ref b ∧ H b = some (.lst []) ∧ Q (.bl xs.isEmpty) H
def rNeLst0 (K : PySem.W.Frag) : R2 := fun x y H Q => ∃ a b xs, x = .ref a ∧ H a = some (.lst xs) ∧ y = .ref b ∧ H b = some (.lst []) ∧ Q (.bl (!xs.isEmpty)) H
open PySem.SeqAt in
theorem op_eq_lst0 (hu : X.A.units + 1 < cLine) : OpR X (compareOp .Eq) (rEqLst0 X.K) := by
  intro pins s σ H x y v u Q I rx ry h
  obtain ⟨a, b, xs, rfl, ea, rfl, eb, q⟩ := h
  cases (show v = Value.ref a from rx)
  cases (show u = Value.ref b from ry)
  obtain ⟨_, its, n, rv, ho⟩ := (show ObjOk X.prog X.w H s.heap a (.lst xs) from I.hok a _ ea)
  obtain ⟨_, itb, m, rb, hp⟩ := (show ObjOk X.prog X.w H s.heap b (.lst []) from I.hok b _ eb)
  cases rb
  cases rv with
  | nil =>
    have z := RcAt.lists (A := X.A) (s := s) (e := fun _ => true) (items := #[]) (items2 := #[]) ⟨_, ho, rfl, n, rfl⟩ ⟨_, hp, rfl, m, rfl⟩ rfl (by omega)
      (fun j h1 h2 => absurd h2 (Nat.not_lt_zero j))
    exact z X.prog X.w _ _ ⟨.bl _, H, I, rfl, q⟩
  | cons r t =>
    have z := RcAt.lists_lengths (A := X.A) (s := s) ⟨_, ho, rfl, n, rfl⟩ ⟨_, hp, rfl, m, rfl⟩ (by simp) (by omega)
    exact z X.prog X.w _ _ ⟨.bl _, H, I, rfl, q⟩
open PySem.SeqAt in
theorem op_ne_lst0 (hu : X.A.units + 1 < cLine) : OpR X (compareOp .NotEq) (rNeLst0 X.K) := by
  intro pins s σ H x y v u Q I rx ry h
  obtain ⟨a, b, xs, rfl, ea, rfl, eb, q⟩ := h
  cases (show v = Value.ref a from rx)
  cases (show u = Value.ref b from ry)
  obtain ⟨_, its, n, rv, ho⟩ := (show ObjOk X.prog X.w H s.heap a (.lst xs) from I.hok a _ ea)
  obtain ⟨_, itb, m, rb, hp⟩ := (show ObjOk X.prog X.w H s.heap b (.lst []) from I.hok b _ eb)
  cases rb
  cases rv with
  | nil =>
    have z := RcNeAt.lists (A := X.A) (s := s) (e := fun _ => true) (items := #[]) (items2 := #[]) ⟨_, ho, rfl, n, rfl⟩ ⟨_, hp, rfl, m, rfl⟩ rfl (by omega)
      (fun j h1 h2 => absurd h2 (Nat.not_lt_zero j))
    exact z X.prog X.w _ _ ⟨.bl _, H, I, rfl, q⟩
  | cons r t =>
    have z := RcNeAt.lists_lengths (A := X.A) (s := s) ⟨_, ho, rfl, n, rfl⟩ ⟨_, hp, rfl, m, rfl⟩ (by simp) (by omega)
    exact z X.prog X.w _ _ ⟨.bl _, H, I, rfl, q⟩
end
end D

set_option Elab.async false
set_option linter.all false
set_option maxRecDepth 100000
set_option maxHeartbeats 4000000
/-! What every law's text uses: draws out of a bag, and small rules. -/
namespace L
open PySem PySem.Spec PyProof.Rows L2 G D

/-- built-in names that the text does not shade -/
structure Bl (mg : Str → Option Value) : Prop where
  lenN : mg "len" = none
  isinstanceN : mg "isinstance" = none
  intN : mg "int" = none
  strN : mg "str" = none
  boolN : mg "bool" = none
  listN : mg "list" = none
  tupleN : mg "tuple" = none
  dictN : mg "dict" = none
  setN : mg "set" = none
  absN : mg "abs" = none
  reprN : mg "repr" = none
  sortedN : mg "sorted" = none
  allN : mg "all" = none
  rangeN : mg "range" = none
  zipN : mg "zip" = none
  enumerateN : mg "enumerate" = none
  minN : mg "min" = none

/-- a def that stands behind the top, with its promise -/
structure Def (P : Program) (w : World) (K : PySem.W.Frag) (mg : Str → Option Value) (base : Heap) (k : Nat) (x : Str) (ps : List Str) (sp : Sp) where
  f : Addr
  fd : FuncData
  ok : Fn P w K mg base CX0 k f fd ps sp
  b : Binds K fd ps []
  m : mg x = some (.ref f)
  kp : PySem.W.keepIn K (.ref f) = true
section
variable {X : Cx} {k : Nat} {x : Str} {ps : List Str} {sp : Sp} {e : Expr} {es : List Expr} {t : TA} {p pos : Pos}
theorem pe_def (D : Def X.prog X.w X.K X.mg X.base k x ps sp) (hc : Calm X.A) (hr : Room k X.A) (ha : PA X (e :: es) t) (hg : Gl X x := by rfl)
    (hdb : (x == ("__debug__" : Str)) = false := by decide)
    (he : starEach (e :: es) X.env = (false, eval e X.env) :: starEach es X.env := by rfl)
    (hpl : (backTo pos (starEach es X.env)).any (·.1) = false := by rfl) :
    PE X (.Call (.Name x p) (e :: es) [] pos) (tCall sp [] E0 t) :=
  pe_fn D.ok hc hr hg D.m D.kp D.b .nil pass0 ha hdb he hpl
end

/-! ### heaps -/
/-- all but what stands at b is as it was -/
def SameBut (b : Addr) (H H' : Hp) : Prop := ∀ x o, x ≠ b → H x = some o → H' x = some o
theorem SameBut.refl (b : Addr) (H : Hp) : SameBut b H H := fun _ _ _ h => h
theorem SameBut.trans {b : Addr} {H H1 H2 : Hp} (a : SameBut b H H1) (c : SameBut b H1 H2) : SameBut b H H2 := fun x o n h => c x o n (a x o n h)
theorem SameBut.same {b : Addr} {H H1 H2 : Hp} (a : SameBut b H H1) (c : Same H1 H2) : SameBut b H H2 := fun x o n h => c x o (a x o n h)
theorem Same.but {b : Addr} {H H1 : Hp} (c : Same H H1) : SameBut b H H1 := fun x o _ h => c x o h
theorem SameBut.upd {b : Addr} {H : Hp} {o : HO} : SameBut b H (upd H b o) := fun x u n h => by rw [upd_ne n]; exact h
theorem same_upd {H : Hp} {p : Addr} {o : HO} (h : H p = none) : Same H (upd H p o) := fun b u e => by rw [upd_ne (ne_of_none e h)]; exact e
/-- the frozen part F, without what stands at b, lies in H -/
theorem SameBut.from {b : Addr} {F H H' : Hp} (s : Same F H) (n : F b = none) (h : SameBut b H H') : Same F H' := fun x o e => h x o (fun z => by rw [z, n] at e; cases e) (s x o e)

theorem pget_list {X : Cx} : PGet X (rIxL X.K) := by
  intro pins s σ H o i ov iv Q I ro ri h
  obtain ⟨p, xs, k, v, rfl, rfl, hq, he, q⟩ := h
  cases ro
  obtain ⟨t, rfl⟩ := ri
  obtain ⟨its, r, pl, hz⟩ := I.list hq
  obtain ⟨j, h1, h2, h3, h4, h5⟩ := atI_get he
  obtain ⟨w, ew, rw'⟩ := r.get h2
  have hl := r.length
  have hn := line63
  have fin : EP X pins σ Q w s := ⟨v, H, I, rw', q⟩
  by_cases h0 : 0 ≤ k
  · have hj : k.toNat = j := by
      rw [seqIndex_of h0 h5] at h1
      exact Option.some.inj h1
    exact getItem_listL pl.isList h0 (by omega) (by rw [hj]; simpa using ew) fin
  · have hj : (k + (its.toArray.size : Int)).toNat = j := by
      rw [seqIndex_neg (by omega) h4] at h1
      rw [List.size_toArray, ← hl]
      exact Option.some.inj h1
    exact wpAny_mono (wpAny_getItem_list_neg (Q := fun r s' => r = w ∧ EP X pins σ Q r s') pl.isList (by omega) (by rw [List.size_toArray] <;> omega) (by omega) (by rw [hj]; simpa using ew) ⟨rfl, fin⟩) (fun _ _ z => z.2) fun _ _ z => z

/-! ### the bag -/
/-- at b stands a bag: its four places, the last one the list at l of numbers from 0 on -/
def BagL (H : Hp) (b l : Addr) : Prop := ∃ (c0 c1 c2 : Int) (ms : List Int), H b = some (.lst [.int c0, .int c1, .int c2, .ref l]) ∧
  H l = some (.lst (ms.map V.int)) ∧ 0 ≤ c0 ∧ 0 ≤ c1 ∧ c1 < 2147483648 ∧ 0 ≤ c2 ∧ ms.length ≤ 63 ∧ ∀ m ∈ ms, 0 ≤ m
def Bag (H : Hp) (b : Addr) : Prop := ∃ l, BagL H b l
/-- it is the same bag, with the same list -/
def BagTo (H H' : Hp) (b : Addr) : Prop := ∃ l, BagL H b l ∧ BagL H' b l
theorem BagL.keep {H H' : Hp} {b l : Addr} (h : BagL H b l) (s : Same H H') : BagL H' b l := by
  obtain ⟨c0, c1, c2, ms, h1, h2, r⟩ := h
  exact ⟨c0, c1, c2, ms, s _ _ h1, s _ _ h2, r⟩
theorem Bag.keep {H H' : Hp} {b : Addr} (h : Bag H b) (s : Same H H') : Bag H' b := let ⟨l, q⟩ := h; ⟨l, q.keep s⟩
theorem BagL.one {H : Hp} {b l l' : Addr} (h : BagL H b l) (h' : BagL H b l') : l = l' := by
  obtain ⟨c0, c1, c2, ms, h1, _⟩ := h
  obtain ⟨d0, d1, d2, ms', g1, _⟩ := h'
  rw [h1] at g1
  have := HO.lst.inj (Option.some.inj g1)
  simp at this
  exact this.2.2.2
theorem BagTo.bag {H H' : Hp} {b : Addr} (h : BagTo H H' b) : Bag H' b := let ⟨l, _, q⟩ := h; ⟨l, q⟩
/-- a draw: from 0 on, below many -/
def spTake : Sp := fun vs H Q _ => ∃ (b : Addr) (m : Int), vs = [.ref b, .int m] ∧ Bag H b ∧ 0 < m ∧ m < 1000000000 ∧
  ∀ (k : Int) (H' : Hp), 0 ≤ k → k < m → SameBut b H H' → BagTo H H' b → Q (.int k) H'
/-- one of a list of things -/
def spOne : Sp := fun vs H Q _ => ∃ (b t : Addr) (xs : List V), vs = [.ref b, .ref t] ∧ Bag H b ∧ H t = some (.lst xs) ∧ t ≠ b ∧ xs ≠ [] ∧ xs.length < 1000000 ∧
  ∀ (v : V) (H' : Hp), v ∈ xs → SameBut b H H' → BagTo H H' b → Q v H'
end L

set_option Elab.async false
set_option linter.all false
set_option maxRecDepth 100000
set_option maxHeartbeats 4000000
/-! Order and sorting of data. -/
namespace S
open PySem PySem.Spec PyProof.Rows L2 G D L
open PySem.W (alike dataLt dataLe AllAlike Sortable sorted_data EachIs)
section
variable {X : Cx}
/-- x < y, of data that can be compared -/
def rCmpA (K : PySem.W.Frag) (g : PyData → PyData → Bool) : R2 := fun x y H Q => ∃ d e, Rep K H x d ∧ Rep K H y e ∧ d.pure = true ∧ e.pure = true ∧ alike d.py e.py = true ∧ d.py ≠ .none ∧ d.py.depth ≤ 40 ∧ Q (.bl (g d.py e.py)) H
theorem op_ltA (hu : X.A.units + 64 < cLine) : OpR X (compareOp .Lt) (rCmpA X.K dataLt) := by
  intro pins s σ H x y v u Q I rx ry h
  obtain ⟨d, e, hd, he, pd, pe, al, hn, dp, q⟩ := h
  obtain ⟨as, ra, _⟩ := Rep.reads I d x v hd pd rx
  obtain ⟨bs, rb, _⟩ := Rep.reads I e y u he pe ry
  exact PySem.W.rcLt_alike _ _ X.A s v u as bs ra rb al hn (by have := Nat.min_le_left d.py.depth e.py.depth; omega) X.prog X.w _ _ ⟨.bl _, H, I, rfl, q⟩
theorem op_geA (hu : X.A.units + 64 < cLine) : OpR X (compareOp .GtE) (rCmpA X.K fun d e => !dataLt d e) := by
  intro pins s σ H x y v u Q I rx ry h
  obtain ⟨d, e, hd, he, pd, pe, al, hn, dp, q⟩ := h
  obtain ⟨as, ra, _⟩ := Rep.reads I d x v hd pd rx
  obtain ⟨bs, rb, _⟩ := Rep.reads I e y u he pe ry
  exact PySem.W.rcGe_alike _ _ X.A s v u as bs ra rb al hn (by have := Nat.min_le_left d.py.depth e.py.depth; omega) X.prog X.w _ _ ⟨.bl _, H, I, rfl, q⟩

theorem each_rep {K : PySem.W.Frag} {H : Hp} : ∀ {ds : List Dat} {xs : List V} {vs : List Value}, RepAll K H xs ds → Vals xs vs → EachIs (fun v d => ∃ x, RelV x v ∧ Rep K H x d) vs ds
  | [], xs, vs, r, q => by
    cases (show xs = [] from r)
    cases q
    exact .nil
  | d :: ds, xs, vs, r, q => by
    obtain ⟨x, t, rfl, a, b⟩ := r
    cases q with
    | cons r1 r2 => exact .cons ⟨x, r1, a⟩ (each_rep b r2)
theorem rep_each {K : PySem.W.Frag} {H : Hp} : ∀ {ds : List Dat} {vs : List Value}, EachIs (fun v d => ∃ x, RelV x v ∧ Rep K H x d) vs ds → ∃ xs, RepAll K H xs ds ∧ Vals xs vs := by
  intro ds vs h
  induction h with
  | nil => exact ⟨[], rfl, .nil⟩
  | cons a _ ih =>
    obtain ⟨x, r, p⟩ := a
    obtain ⟨xs, q, t⟩ := ih
    exact ⟨x :: xs, ⟨x, xs, rfl, p, q⟩, .cons r t⟩
/-- the items in order -/
def sortD (ds : List Dat) : List Dat := ds.mergeSort (dataLe false Dat.py)
/-- what sorting asks of the items -/
structure Ord (ds : List Dat) : Prop where
  pu : ∀ d ∈ ds, d.pure = true
  al : AllAlike (ds.map Dat.py)
  so : Sortable (ds.map Dat.py)
  dp : ∀ d ∈ ds, d.py.depth ≤ 40
def rSorted (K : PySem.W.Frag) : List V → Hp → VK → Prop := fun vs H Q => ∃ a xs ds, ∃ G : Hp, vs = [.ref a] ∧ H a = some (.lst xs) ∧ Same G H ∧ RepAll K G xs ds ∧ Ord ds ∧
  ∀ p ys, H p = none → RepAll K G ys (sortD ds) → ys.length = xs.length → Q (.ref p) (upd H p (.lst ys))
theorem call_sorted (hu : X.A.units + 64 < cLine) : CallR X (.builtin "sorted") (rSorted X.K) := by
  intro pins s σ H vs us Q I r h
  obtain ⟨a, xs, ds, G, rfl, ha, sG, hr, ho, q⟩ := h
  obtain ⟨u, rfl, ru⟩ := vals1 r
  cases (show u = Value.ref a from ru)
  obtain ⟨hz, its, n, rv, hob⟩ := (show ObjOk X.prog X.w H s.heap a (.lst xs) from I.hok a _ ha)
  have e1 := each_rep hr rv
  have e2 : EachIs (fun v d => ∃ as, Reads s.heap v (Dat.py d) as) its ds := by
    have : ∀ {ds : List Dat} {vs : List Value}, (∀ d ∈ ds, d.pure = true) → EachIs (fun v d => ∃ x, RelV x v ∧ Rep X.K G x d) vs ds → EachIs (fun v d => ∃ as, Reads s.heap v (Dat.py d) as) vs ds := by
      intro ds vs hp e
      induction e with
      | nil => exact .nil
      | @cons v d vs ds a _ ih =>
        obtain ⟨x, r, p⟩ := a
        obtain ⟨as, q, _⟩ := Rep.reads I d x v (Rep.mono sG d p) (hp d List.mem_cons_self) r
        exact .cons ⟨as, q⟩ (ih fun y hy => hp y (List.mem_cons_of_mem _ hy))
    exact this ho.pu e1
  have hl : xs.length = ds.length := hr.length
  refine sorted_data (enc := Dat.py) ⟨_, hob, rfl, n, rfl⟩ e1 e2 ho.al ho.so (by rw [← hl]; exact hz) (fun d hd => ?_) fun out ol eo => ?_
  · have := ho.dp d hd
    omega
  · obtain ⟨ys, ry, vy⟩ := rep_each eo
    have yl : ys.length = xs.length := by rw [vy.length, ol, hl]
    obtain ⟨ep, he⟩ := sortedAll_at s.heap its out.toArray
    refine ⟨.ref _, upd H (s.heap.objs.size + 1) (.lst ys), I.laid (t' := s.toks) (fun _ _ => sortedAll_old) (Nat.le_succ _) ?_, rfl, ?_⟩
    · exact ⟨by rw [yl]; exact hz, out, ep, vy, he⟩
    · exact q _ ys (I.hok.fresh (Nat.le_succ _)) ry yl
end
end S

set_option Elab.async false
set_option linter.all false
set_option maxRecDepth 100000
set_option maxHeartbeats 4000000
/-! Comprehensions whose turns change nothing that stands, or a bag alone. -/
namespace C
open PySem PySem.Spec PyProof.Rows L2 G D L S
theorem take_succ_map {α β : Type} {xs : List α} {f : α → Option β} {i : Nat} {a : α} (h : xs[i]? = some a) :
    (xs.take (i + 1)).filterMap f = (xs.take i).filterMap f ++ (match f a with | some y => [y] | none => []) := by
  have e : xs.take (i + 1) = xs.take i ++ [a] := by
    rw [List.take_add_one, h]; rfl
  rw [e, List.filterMap_append]
  congr 1
  cases hf : f a <;> simp [hf]
section
variable {J : It} {n : Nat} {G : Hp → Prop} {Y : Nat → Hp → V → Hp → Prop}
/-- the end of a comprehension over w: nothing that stands changes; a place gives f a, or nothing -/
theorem lc_sel {α : Type} (w : Walk J n G Y) (xs : List α) (f : α → Option V) {g : TG} {tt : TT} {te : TE} {vs : List Nat} {σ : L2.St} {H1 : Hp} {D : Addr}
    {Qd : Hp → Prop} (hn : xs.length = n) (hz : n < sizeLine) (hD : H1 D = none) (hG : ∀ H, Same H1 H → G H)
    (turn : ∀ (i : Nat) (a : α) (x : V) (H H' : Hp) (Kt : V → Hp → Prop) (Kf : Hp → Prop), xs[i]? = some a → Same H1 H → Y i H x H' →
      (∀ y H4, Same H H4 → f a = some y → Kt y H4) → (∀ H3, Same H H3 → f a = none → Kf H3) →
      g x (wipe σ vs) H' fun σ2 H2 => wipe σ2 vs = wipe σ vs ∧ tt σ2 H2 fun b H3 => if b = true then te σ2 H3 Kt else Kf H3)
    (done : ∀ H, Same H1 H → H D = some (.lst (xs.filterMap f)) → Qd H) :
    ∃ W : Nat → Nat → Hp → Prop, (∃ m, W 0 m (upd H1 D (.lst []))) ∧ ∀ i m H, W i m H →
      (J.stop i H ∧ Qd H) ∨ (J.go i H ∧ ∃ Nx : Hp → Prop, (∀ H', Nx H' → ∃ m', m' < m ∧ W (i + 1) m' H') ∧ ∀ x H', J.yld i H x H' →
        g x (wipe σ vs) H' fun σ2 H2 => wipe σ2 vs = wipe σ vs ∧ tt σ2 H2 fun b H3 =>
          if b = true then te σ2 H3 fun y H4 => ∃ acc, H4 D = some (.lst acc) ∧ acc.length < sizeLine ∧ Nx (upd H4 D (.lst (acc ++ [y]))) else Nx H3) := by
  refine lc_it w (fun i H => Same H1 H ∧ H D = some (.lst ((xs.take i).filterMap f))) ⟨same_upd hD, upd_same⟩ (fun i H _ h => hG H h.1) ?_ ?_
  · rintro i x H H' hi ⟨hs, hd⟩ hy
    have hx : xs[i]? = some xs[i] := List.getElem?_eq_getElem (by omega)
    have hl : ((xs.take i).filterMap f).length < sizeLine := by
      have h1 := List.length_filterMap_le f (xs.take i)
      have h2 := List.length_take_le i xs
      omega
    refine turn i _ x H H' _ _ hx hs hy (fun y H4 h4 e => ?_) (fun H3 h3 e => ?_)
    · refine ⟨_, h4 _ _ hd, hl, ?_, ?_⟩
      · intro b o eb
        rw [upd_ne (ne_of_none eb hD)]
        exact h4 _ _ (hs _ _ eb)
      · rw [upd_same, take_succ_map hx, e]
    · refine ⟨hs.trans h3, ?_⟩
      rw [h3 _ _ hd, take_succ_map hx, e, List.append_nil]
  · rintro H ⟨hs, hd⟩
    rw [← hn, List.take_length] at hd
    exact done H hs hd
/-- the same without a test -/
theorem lc_map {α : Type} (w : Walk J n G Y) (xs : List α) (f : α → V) {g : TG} {te : TE} {vs : List Nat} {σ : L2.St} {H1 : Hp} {D : Addr}
    {Qd : Hp → Prop} (hn : xs.length = n) (hz : n < sizeLine) (hD : H1 D = none) (hG : ∀ H, Same H1 H → G H)
    (turn : ∀ (i : Nat) (a : α) (x : V) (H H' : Hp) (Kt : V → Hp → Prop), xs[i]? = some a → Same H1 H → Y i H x H' →
      (∀ H4, Same H H4 → Kt (f a) H4) →
      g x (wipe σ vs) H' fun σ2 H2 => wipe σ2 vs = wipe σ vs ∧ te σ2 H2 Kt)
    (done : ∀ H, Same H1 H → H D = some (.lst (xs.map f)) → Qd H) :
    ∃ W : Nat → Nat → Hp → Prop, (∃ m, W 0 m (upd H1 D (.lst []))) ∧ ∀ i m H, W i m H →
      (J.stop i H ∧ Qd H) ∨ (J.go i H ∧ ∃ Nx : Hp → Prop, (∀ H', Nx H' → ∃ m', m' < m ∧ W (i + 1) m' H') ∧ ∀ x H', J.yld i H x H' →
        g x (wipe σ vs) H' fun σ2 H2 => wipe σ2 vs = wipe σ vs ∧ tYes σ2 H2 fun b H3 =>
          if b = true then te σ2 H3 fun y H4 => ∃ acc, H4 D = some (.lst acc) ∧ acc.length < sizeLine ∧ Nx (upd H4 D (.lst (acc ++ [y]))) else Nx H3) := by
  refine lc_it w (fun i H => Same H1 H ∧ H D = some (.lst ((xs.take i).map f))) ⟨same_upd hD, upd_same⟩ (fun i H _ h => hG H h.1) ?_ ?_
  · rintro i x H H' hi ⟨hs, hd⟩ hy
    have hx : xs[i]? = some xs[i] := List.getElem?_eq_getElem (by omega)
    have hl : ((xs.take i).map f).length < sizeLine := by
      have h2 := List.length_take_le i xs
      rw [List.length_map]
      omega
    have key := turn i _ x H H' (fun y H4 => ∃ acc, H4 D = some (.lst acc) ∧ acc.length < sizeLine ∧ Same H1 (upd H4 D (.lst (acc ++ [y]))) ∧ (upd H4 D (.lst (acc ++ [y]))) D = some (.lst ((xs.take (i + 1)).map f))) hx hs hy (fun H4 h4 => by
      refine ⟨_, h4 _ _ hd, hl, ?_, ?_⟩
      · intro b o eb
        rw [upd_ne (ne_of_none eb hD)]
        exact h4 _ _ (hs _ _ eb)
      · rw [upd_same, List.take_add_one, hx, List.map_append]; rfl)
    exact key
  · rintro H ⟨hs, hd⟩
    rw [← hn, List.take_length] at hd
    exact done H hs hd
end
end C

set_option Elab.async false
set_option linter.all false
set_option maxRecDepth 100000
set_option maxHeartbeats 8000000
namespace K
open PySem PySem.Spec PyProof.Rows L2 G D L S C
open C8 (pss_cut tCut)
def top (i : Nat) : Stmt := PySem.Challenge.pw_letinside_k13_calls_by_rules.main.body.getD i (.Pass ⟨0, 0, 0, 0⟩)
/-! what the words of the kinds mean -/
def lower (c : Nat) : Bool := decide (97 ≤ c) && decide (c ≤ 122)
def nameOk (x : Str) : Bool := decide (1 ≤ x.length) && decide (x.length ≤ 8) && x.cps.toList.all lower
def isName : Dat → Bool
  | .str x => nameOk x
  | _ => false
def isWhole : Dat → Bool
  | .int _ => true
  | _ => false
/-- a question about data -/
def spB (K : PySem.W.Frag) (ok : Dat → Prop) (g : Dat → Bool) : Sp := fun vs H Q _ => ∃ (v : V) (d : Dat), vs = [v] ∧ Rep K H v d ∧ ok d ∧ ∀ H', Same H H' → Q (.bl (g d)) H'
mutual
/-- small enough at every place -/
def wd : Dat → Bool
  | .str x => decide (x.length ≤ 100000)
  | .lst ds => decide (ds.length ≤ 100000) && wdAll ds
  | .tup ds => decide (ds.length ≤ 100000) && wdAll ds
  | _ => true
def wdAll : List Dat → Bool
  | [] => true
  | d :: ds => wd d && wdAll ds
end
abbrev Wd (d : Dat) : Prop := wd d = true
theorem wdAll_mem : ∀ {ds : List Dat}, wdAll ds = true → ∀ d ∈ ds, Wd d
  | [], _, _, h => by simp at h
  | e :: ds, h, d, hd => by
    have h' : (wd e && wdAll ds) = true := h
    rw [Bool.and_eq_true] at h'
    rcases List.mem_cons.mp hd with rfl | hd
    · exact h'.1
    · exact wdAll_mem h'.2 d hd
theorem wd_lst {ds : List Dat} (h : Wd (.lst ds)) : ds.length ≤ 100000 ∧ ∀ d ∈ ds, Wd d := by
  have h' : (decide (ds.length ≤ 100000) && wdAll ds) = true := h
  rw [Bool.and_eq_true, decide_eq_true_eq] at h'
  exact ⟨h'.1, wdAll_mem h'.2⟩
theorem wd_tup {ds : List Dat} (h : Wd (.tup ds)) : ds.length ≤ 100000 ∧ ∀ d ∈ ds, Wd d := wd_lst (ds := ds) h
theorem wd_str {x : Str} (h : Wd (.str x)) : x.length ≤ 100000 := of_decide_eq_true h
theorem cps_one (c : Nat) : (⟨#[c]⟩ : Str).cps.toList = [c] := rfl
theorem lower_test (c : Nat) : (!decide ((⟨#[c]⟩ : Str).cps.toList < ("a" : Str).cps.toList)) = decide (97 ≤ c) ∧ (!decide (("z" : Str).cps.toList < (⟨#[c]⟩ : Str).cps.toList)) = decide (c ≤ 122) := by
  have ea : ("a" : Str).cps.toList = [97] := by decide +kernel
  have ez : ("z" : Str).cps.toList = [122] := by decide +kernel
  rw [ea, ez, cps_one]
  constructor
  · by_cases h : 97 ≤ c
    · have : ¬ ([c] < [97]) := by rw [List.cons_lt_cons_iff]; simp; omega
      simp [this, h]
    · have : ([c] < [97]) := by rw [List.cons_lt_cons_iff]; omega
      simp [this, h]
  · by_cases h : c ≤ 122
    · have : ¬ ([122] < [c]) := by rw [List.cons_lt_cons_iff]; simp; omega
      simp [this, h]
    · have : ([122] < [c]) := by rw [List.cons_lt_cons_iff]; omega
      simp [this, h]
section
variable {P : Program} {w : World} {K : PySem.W.Frag} {mg : Str → Option Value} {base : Heap}
abbrev s_is_integer : Stmt := top 5
theorem sc_is_integer : FnScope ["thing"] ["thing"] (defScope s_is_integer) := ⟨rfl, rfl, rfl, by decide +kernel, rfl, by decide +kernel, by decide +kernel⟩
theorem ok_is_integer {f : Addr} {fd : FuncData} (F : Fun K "is_integer" "is_integer" s_is_integer f fd) (T : Bl mg) :
    Fn P w K mg base CX0 2 f fd ["thing"] (spB K (fun _ => True) isWhole) := by
  refine fn_calm F sc_is_integer (fun vs H Q E h => ?_) (fun cdv A outer s H vs Q E hc hr h => ?_)
  · obtain ⟨v, d, rfl, _⟩ := h
    rfl
  · obtain ⟨v, d, rfl, hv, _, k⟩ := h
    refine ⟨_, (pss_one (ps_ret (pe_and (pe_callB call_isi (by rfl) T.isinstanceN (by decide +kernel) (pa_cons (pv 0) (pa_cons (pe_bltn (v := .ty "int") (by rfl) T.intN (by decide +kernel) rfl) pa_nil))) (pe_one (pe_not (pe_callB call_isi (by rfl) T.isinstanceN (by decide +kernel) (pa_cons (pv 0) (pa_cons (pe_bltn (v := .ty "bool") (by rfl) T.boolN (by decide +kernel) rfl) pa_nil)))))))), ?_⟩
    refine ⟨_, rfl, _, _, _, _, _, rfl, .ty "int", hv.ty, kit_int hv, _, rfl, ?_⟩
    refine ite2 (fun e => ?_) (fun e => ?_)
    · refine ⟨_, rfl, _, _, _, _, _, rfl, .ty "bool", hv.ty, kit_bl hv, _, rfl, ?_⟩
      have q : (!d.isBl) = isWhole d := by cases d <;> first | rfl | cases e
      rw [q]
      exact k H (.refl H)
    · have q : isWhole d = false := by cases d <;> first | rfl | exact absurd rfl e
      have z := k H (.refl H)
      rw [q] at z
      exact z
abbrev s_is_name : Stmt := top 7
theorem sc_is_name : FnScope ["thing", "sign"] ["thing"] (defScope s_is_name) := ⟨rfl, rfl, rfl, by decide +kernel, rfl, by decide +kernel, by decide +kernel⟩
theorem ok_is_name {f : Addr} {fd : FuncData} (F : Fun K "is_name" "is_name" s_is_name f fd) (T : Bl mg) :
    Fn P w K mg base CX0 2 f fd ["thing"] (spB K Wd isName) := by
  refine fn_calm F sc_is_name (fun vs H Q E h => ?_) (fun cdv A outer s H vs Q E hc hr h => ?_)
  · obtain ⟨v, d, rfl, _⟩ := h
    rfl
  · obtain ⟨v, d, rfl, hv, hw, k⟩ := h
    refine ⟨_, (pss_cons (ps_if (PW.pt (pw_or (pt_not (pt_val (pe_callB call_isi (by rfl) T.isinstanceN (by decide +kernel) (pa_cons (pv 0) (pa_cons (pe_bltn (v := .ty "str") (by rfl) T.strN (by decide +kernel) rfl) pa_nil))))) (pw_or1 (pt_not (pt_chain op_le op_le pe_int (pe_callB call_len_str (by rfl) T.lenN (by decide +kernel) (pa_cons (pv 0) pa_nil)) pe_int)))))
  (pss_one (ps_ret pe_bl))
  pss_nil)
 (pss_one (ps_ret (pe_callB (cr_all rfl) (by rfl) T.allN (by decide +kernel) (pa_cons (pe_lc (own := [("sign", 1)]) (g := gName 1) (tt := tYes) rfl sc_is_name.nd (pi_str (pv 0)) (blkOk_by (N := ["thing", "sign"]) (sc := defScope s_is_name) (by decide +kernel)) (fun _ _ _ _ _ => (pg_name (i := 1) sc_is_name.nd rfl (Or.inl rfl))) (fun _ _ _ _ _ => pts_nil) (fun _ _ _ _ _ => (pe_chain op_le_str op_le_str pe_str (pv 1) pe_str))) pa_nil))))), ?_⟩
    refine ⟨_, rfl, _, _, _, _, _, rfl, .ty "str", hv.ty, kit_str hv, _, rfl, ?_⟩
    cases d with
    | str x =>
      cases (show v = V.str x from hv)
      refine iteF ?_
      have hx : x.length ≤ sizeLine := Nat.le_trans (wd_str hw) (by decide)
      have no : ∀ H', Same H H' → isName (.str x) = false → Q (.bl false) H' := fun H' s e => by
        have z := k H' s
        rw [e] at z
        exact z
      refine ⟨_, rfl, _, rfl, hx, _, _, rfl, rfl, _, rfl, ?_⟩
      refine ite2 (fun e1 => ?_) (fun e1 => ?_)
      · refine ⟨_, _, rfl, rfl, _, rfl, ?_⟩
        have h1 : 1 ≤ x.length := by have := of_decide_eq_true e1; omega
        refine ite2 (fun e2 => ?_) (fun e2 => ?_)
        · refine no H (.refl H) ?_
          have h2 : ¬ x.length ≤ 8 := fun z => by
            have : decide (((x.length : Nat) : Int) ≤ 8) = true := decide_eq_true (by omega)
            rw [this] at e2
            cases e2
          show nameOk x = false
          unfold nameOk
          rw [decide_eq_false h2]
          simp
        · have h2 : x.length ≤ 8 := Decidable.byContradiction fun z => e2 (by
            have : decide (((x.length : Nat) : Int) ≤ 8) = false := decide_eq_false (by omega)
            rw [this]; rfl)
          refine ⟨_, rfl, x, rfl, fun D hD => lc_map walk_str x.cps.toList (fun c => .bl (lower c)) (by simp) ?_ hD (fun _ _ => trivial) ?_ ?_⟩
          · have : x.cps.size = x.length := rfl
            rw [this]
            exact Nat.lt_of_le_of_lt h2 (by decide)
          · rintro i c y H1 H2 Kt hc hs ⟨rfl, c', hc', rfl⟩ kt
            refine ⟨rfl, ?_⟩
            obtain rfl : c' = c := by
              rw [← Array.getElem?_toList, hc] at hc'
              exact (Option.some.inj hc').symm
            have z := kt _ (.refl _)
            unfold lower at z
            refine ⟨_, rfl, _, _, rfl, rfl, _, rfl, ?_⟩
            rw [(lower_test c').1]
            refine ite2 (fun e3 => ?_) (fun e3 => ?_)
            · refine ⟨_, _, rfl, rfl, ?_⟩
              rw [(lower_test c').2]
              rw [e3] at z
              exact z
            · have e4 : decide (97 ≤ c') = false := Bool.not_eq_true _ ▸ e3
              rw [e4] at z
              exact z
          · intro H1 hs hd
            refine ⟨D, x.cps.toList.map lower, rfl, ?_, ?_⟩
            · refine SqL.of ?_
              rw [List.map_map]
              exact hd
            · have z := k H1 hs
              have q : isName (.str x) = (x.cps.toList.map lower).all id := by
                show nameOk x = _
                unfold nameOk
                rw [decide_eq_true h1, decide_eq_true h2, List.all_map]
                rfl
              rw [q] at z
              exact z
      · refine ⟨_, rfl, iteT (no H (.refl H) ?_)⟩
        have h1 : ¬ 1 ≤ x.length := fun z => e1 (decide_eq_true (by omega))
        show nameOk x = false
        unfold nameOk
        rw [decide_eq_false h1]
        rfl
    | _ => exact iteT (iteT (k H (.refl H)))
end
end K

set_option Elab.async false
set_option linter.all false
set_option maxRecDepth 100000
set_option maxHeartbeats 8000000
/-! set(..) of a list or a tuple of texts: how many there are. -/
namespace Sx
open PySem PySem.Spec PyProof.Rows L2 G D L
/-- how many different ones stand in the first i -/
def cnt {κ : Type} [DecidableEq κ] (ks : List κ) : Nat → Nat
  | 0 => 0
  | i + 1 => match ks[i]? with
    | some k => if k ∈ ks.take i then cnt ks i else cnt ks i + 1
    | none => cnt ks i
theorem cnt_le {κ : Type} [DecidableEq κ] (ks : List κ) : ∀ i, cnt ks i ≤ i
  | 0 => Nat.le_refl _
  | i + 1 => by
    have := cnt_le ks i
    unfold cnt
    split
    · split <;> omega
    · omega
theorem cnt_all {κ : Type} [DecidableEq κ] (ks : List κ) : ∀ i, i ≤ ks.length → (cnt ks i = i ↔ (ks.take i).Nodup)
  | 0, _ => by simp [cnt]
  | i + 1, h => by
    have hk : ks[i]? = some ks[i] := List.getElem?_eq_getElem (by omega)
    have ih := cnt_all ks i (by omega)
    have le := cnt_le ks i
    have e : ks.take (i + 1) = ks.take i ++ [ks[i]] := by rw [List.take_add_one, hk]; rfl
    rw [e, List.nodup_append]
    unfold cnt
    rw [hk]
    simp only
    by_cases hm : ks[i] ∈ ks.take i
    · rw [if_pos hm]
      constructor
      · intro z; omega
      · rintro ⟨_, _, z⟩
        exact absurd rfl (z _ hm _ (List.mem_singleton.mpr rfl))
    · rw [if_neg hm]
      constructor
      · intro z
        refine ⟨ih.mp (by omega), by simp, ?_⟩
        rintro a ha b hb rfl
        rw [List.mem_singleton] at hb
        subst hb
        exact hm ha
      · rintro ⟨z, _, _⟩
        rw [ih.mpr z]
section
variable {prog : Program} {w : World} {A : Around} {E : Value → Shared → Prop} {s : Shared} {κ : Type} [DecidableEq κ] {knd : KeyKind prog w κ}
  {I : Addr} {fp wr : List Addr} {Gg : Array GenState → Array GenState → Prop} {n : Nat} {P : Nat → Value → Prop} {St : Nat → Shared → Prop}
/-- the members after the first i -/
abbrev mem (ks : List κ) (i : Nat) : κ → Bool := fun k => decide (k ∈ ks.take i)
theorem set_loop {R : Result → Shared → Prop} (W : WalksS prog w A.in1 I fp wr Gg n P St) (a : Addr) (ha : a ∉ fp) (ks : List κ) (hl : ks.length = n) (hn : n < 4000)
    (hv : ∀ i v, P i v → ∃ k, ks[i]? = some k ∧ knd.is k v = true ∧ v.scannable = true) :
    ∀ (m i : Nat) (s : Shared), n - i = m → i ≤ n → St i s → s.heap.SetOf knd a (mem ks i) (cnt ks i) →
      (∀ s', Moved (a :: wr) Gg s s' → s'.heap.SetOf knd a (mem ks n) (cnt ks n) → R (.ok (.ret .none)) s') →
      codeAny (model prog w) A (.builtin "set.update.loop" ⟨[.ref a, .ref I], []⟩) R s := by
  have haw : a ∉ wr := fun h => ha (W.sub _ h)
  have more : ∀ b ∈ wr, b ∈ a :: wr := fun b hb => List.mem_cons_of_mem _ hb
  intro m
  induction m with
  | zero =>
    intro i s hm hi st hS fin
    obtain rfl : i = n := by omega
    refine codeAny_builtin F.entry_set_update_loop ?_
    rw [Around.under_plainId F.plain_set_update_loop _]
    show wpAny _ A.in1 (pyNext (.ref I) >>= _) _ _ s
    refine wpAny_bind (W.done s _ _ st fun s' mv => ?_)
    show wpAny _ A.in1 (ret Value.none) _ _ s'
    refine wpAny_pure (fin s' (mv.mono more) ?_)
    obtain ⟨o, es, ep, t, ho, r⟩ := hS
    exact ⟨o, es, ep, t, mv.heap a _ haw ho, r⟩
  | succ m ih =>
    intro i s hm hi st hS fin
    have hlt : i < n := by omega
    refine codeAny_builtin F.entry_set_update_loop ?_
    rw [Around.under_plainId F.plain_set_update_loop _]
    show wpAny _ A.in1 (pyNext (.ref I) >>= _) _ _ s
    refine wpAny_bind (W.item i s _ _ hlt st fun v s' hp st' mv => ?_)
    obtain ⟨k, hk, his, hsc⟩ := hv i v hp
    have hS' : s'.heap.SetOf knd a (mem ks i) (cnt ks i) := by
      obtain ⟨o, es, ep, t, ho, r⟩ := hS
      exact ⟨o, es, ep, t, mv.heap a _ haw ho, r⟩
    have le := cnt_le ks i
    show wpAny _ A.in1 (holding [v] (setAdd a v) >>= _) _ _ s'
    refine wpAny_bind (wpAny_holding ?_)
    unfold setAdd
    refine wpAny_holding (wpAny_bind (knd.pyHash his ?_))
    have room : cnt ks i + 1 < scanBound := by
      unfold scanBound
      omega
    refine wpAny_setAddHashed_of (knd := knd) (s := { s' with toks := s'.toks + 1 }) his hsc hS' room fun h' sb hS3 => ?_
    have mm : ∀ k', (mem ks i k' || decide (k' = k)) = mem ks (i + 1) k' := by
      intro k'
      show (decide (k' ∈ ks.take i) || decide (k' = k)) = decide (k' ∈ ks.take (i + 1))
      rw [List.take_add_one, hk]
      by_cases q : k' ∈ ks.take i <;> by_cases q2 : k' = k <;> simp [q, q2]
    have cc : (if mem ks i k = true then cnt ks i else cnt ks i + 1) = cnt ks (i + 1) := by
      show _ = (match ks[i]? with | some k => if k ∈ ks.take i then cnt ks i else cnt ks i + 1 | none => cnt ks i)
      rw [hk]
      by_cases q : k ∈ ks.take i <;> simp [q]
    refine wpAny_pure ⟨plainId_quiet F.plain_set_update_loop _, ?_⟩
    refine ih (i + 1) _ (by omega) hlt (W.frame _ s' _ _ st' (Nat.le_succ _) fun b hb o e => ?_) (SetOf_congr hS3 mm cc) fun s3 mv3 hS4 => ?_
    · rw [sb.2 b fun q : b = a => ha (by rw [← q]; exact hb)]
      exact e
    · refine fin s3 (Moved.trans W.gtrans ((mv.mono more).then_heap (Nat.le_succ _) fun b o hb e => ?_) mv3) hS4
      rw [sb.2 b fun q : b = a => hb (by rw [q]; exact List.mem_cons_self)]
      exact e
end

section
variable {prog : Program} {w : World} {A : Around} {E : Value → Shared → Prop} {s : Shared} {κ : Type} [DecidableEq κ] {knd : KeyKind prog w κ}
/-- an empty set that has just been made -/
abbrev freshSet (led : Bool) : Obj := { cls := .type "set", dict := none, data := .set #[] 0 (.fresh 0 0 led) }
theorem set_of_list {l : Addr} {items : Array Value} {ks : List κ} {Q : Value → Shared → Prop} (hh : A.handled = none) (hl : s.heap.IsList l items)
    (hk : ks.length = items.size) (hn : items.size < 4000) (hv : ∀ (i : Nat) (v : Value), items[i]? = some v → ∃ k, ks[i]? = some k ∧ knd.is k v = true ∧ v.scannable = true)
    (fin : ∀ (h' : Heap) (tk : Nat), h'.SetOf knd s.heap.objs.size (mem ks items.size) (cnt ks items.size) →
      (∀ b o, b < s.heap.objs.size → s.heap.get? b = some o → h'.get? b = some o) → Q (.ref s.heap.objs.size) { s with heap := h', toks := tk }) :
    wpAny (model prog w) A (call (.type "set") [.ref l]) Q E s := by
  obtain ⟨c, tl, hmro⟩ := F.called_set.mro
  have q1 := F.called_set.made
  have q2 := F.called_set.sub
  refine wpAny_call (codeAny_of_tree ?_)
  show wpAny _ _ (callAny (.type "set") _) _ _ _
  have quiet : (Code.builtin "type.__call__" ⟨Value.type "set" :: [Value.ref l], []⟩).quiet = true :=
    Code.quiet_builtin _ (by decide +kernel)
  refine wpAny_pure ⟨quiet, codeAny_builtin F.entry_type_call ?_⟩
  rw [Around.under_plain (weight_type_call_type "set" [.ref l] []) rfl]
  have q3 := F.called_set.notType
  have q4 := F.called_set.canCreate
  have q5 := F.typeCall_set_1 (.ref l)
  repeat (any_goals (first | assumption | wp_step))
  let made := fun (obj : Value) (t : Shared) => ∃ led : Bool, obj = .ref s.heap.objs.size ∧ t = { s with heap := s.heap.push (freshSet led) }
  refine codeAny_mono (code_set_new_1 (.ref l) (E := E) (Q₁ := made) fun led => ⟨led, rfl, rfl⟩) ?_
  rintro (e | fl) t hr
  · exact hr
  cases fl with
  | ret obj =>
    obtain ⟨led, rfl, rfl⟩ := hr
    have hS : (s.heap.push (freshSet led)).get? s.heap.objs.size = some (freshSet led) := Heap.get?_push_size _ rfl
    have hT : Shared.TypeIs { s with heap := s.heap.push (freshSet led) } (.ref s.heap.objs.size) "set" := ⟨_, hS, rfl⟩
    have q6 := F.called_set.init.lookup
    have q7 := F.called_set.init.bind (.ref s.heap.objs.size)
    repeat (any_goals (first | assumption | wp_step))
    let filled := fun (r : Value) (t : Shared) => r = Value.none ∧ ∃ h' tk, t = { s with heap := h', toks := tk } ∧
      h'.SetOf knd s.heap.objs.size (mem ks items.size) (cnt ks items.size) ∧
      ∀ b o, b < s.heap.objs.size → s.heap.get? b = some o → h'.get? b = some o
    refine codeAny_mono (codeAny_call_builtin (R := wants filled E) F.called_set.init.plain F.entry_set_init (check_set_init_1 hT ?_)) ?_
    · obtain ⟨⟨cls, dd, dat, sl⟩, ho, hc, nl, hd⟩ := hl
      simp only at hc hd
      subst hc hd
      have ho' : (s.heap.push (freshSet led)).get? l = some { cls := .type "list", dict := dd, data := .seq items nl, slots := sl } :=
        Heap.get?_push_of_some _ ho
      have q8 := F.sub_list_set
      have q9 := F.sub_list_frozenset
      have q10 : (Value.type "list" == Value.type "dict") = false := by decide
      have il : (s.heap.push (freshSet led)).IsList l items := ⟨_, ho', rfl, nl, rfl⟩
      unfold Builtin.«set.__init__» noKeywords Builtin.Frozenset.updateFrom
      generalize hPI : pyIter = PI
      wp_walk
      subst hPI
      refine wpAny_pyIter_list il ?_
      refine wpAny_bind (wpAny_runValue ?_)
      have lS : l < s.heap.objs.size := Heap.lt_size ho
      have h3 : A.in1.in1.in1.handled = none := by simp [hh]
      have nI : l ≠ (s.heap.push (freshSet led)).objs.size := by
        rw [Heap.size_push]
        exact Nat.ne_of_lt (Nat.lt_succ_of_lt lS)
      have nS : s.heap.objs.size ∉ [(s.heap.push (freshSet led)).objs.size, l] := by
        rw [Heap.size_push]
        simp only [List.mem_cons, List.mem_singleton, List.not_mem_nil, or_false, not_or]
        exact ⟨Nat.ne_of_lt (Nat.lt_succ_self _), Nat.ne_of_gt lS⟩
      refine set_loop ((Walks.list h3 _ l nI items).toS) s.heap.objs.size nS ks hk hn hv (items.size - 0) 0 _ (by omega) (Nat.zero_le _)
        ⟨⟨_, Heap.get?_push_size _ rfl, rfl, rfl⟩, il.push _⟩ ?start ?stop
      case start =>
        have g : ((s.heap.push (freshSet led)).push { cls := .type "list_iterator", data := .fields #[.ref l, .int 0 0] }).get? s.heap.objs.size = some (freshSet led) :=
          Heap.get?_push_of_some _ hS
        have z := (setObjOf_fresh (knd := knd) led).setOf g (by unfold scanBound; omega)
        exact SetOf_congr z (fun k => by simp [mem]) rfl
      case stop =>
        rintro ⟨h', g', d', tk', os'⟩ mv hS'
        have eg : g' = s.gens := mv.gens
        have ed : d' = s.drawn := mv.drawn
        have eo : os' = s.os := mv.os
        subst eg ed eo
        show wpAny _ _ _ _ _ _
        refine wpAny_pure ?_
        show wpAny _ _ (ret Value.none) _ _ _
        refine wpAny_pure ⟨rfl, h', tk', rfl, hS', fun b o hb e => ?_⟩
        have n1 : b ≠ s.heap.objs.size := Nat.ne_of_lt hb
        have n2 : b ≠ (s.heap.push (freshSet led)).objs.size := by
          rw [Heap.size_push]
          exact Nat.ne_of_lt (Nat.lt_succ_of_lt hb)
        refine mv.heap b o ?_ (Heap.get?_push_of_some _ (Heap.get?_push_of_some _ e))
        simp only [List.mem_cons, List.mem_singleton, List.not_mem_nil, or_false, not_or]
        exact ⟨n1, n2⟩
    · rintro (e | fl2) t2 hr2
      · exact hr2
      cases fl2 with
      | ret r =>
        obtain ⟨rfl, h', tk, rfl, hS', hk'⟩ := hr2
        repeat (any_goals (first | assumption | wp_step))
        exact fin _ _ hS' hk'
      | _ => exact hr2.elim
  | _ => exact hr.elim
end

end Sx

set_option Elab.async false
set_option linter.all false
set_option maxRecDepth 100000
set_option maxHeartbeats 8000000
/-! set(..) of a tuple; len(set(..)). -/
namespace Sx
open PySem PySem.Spec PyProof.Rows L2 G D L

section
variable {prog : Program} {w : World} {A : Around} {E : Value → Shared → Prop} {s : Shared} {κ : Type} [DecidableEq κ] {knd : KeyKind prog w κ}
theorem set_of_tuple {l : Addr} {items : Array Value} {ks : List κ} {Q : Value → Shared → Prop} (hh : A.handled = none) (hl : s.heap.IsTuple l items)
    (hk : ks.length = items.size) (hn : items.size < 4000) (hv : ∀ (i : Nat) (v : Value), items[i]? = some v → ∃ k, ks[i]? = some k ∧ knd.is k v = true ∧ v.scannable = true)
    (fin : ∀ (h' : Heap) (tk : Nat), h'.SetOf knd s.heap.objs.size (mem ks items.size) (cnt ks items.size) →
      (∀ b o, b < s.heap.objs.size → s.heap.get? b = some o → h'.get? b = some o) → Q (.ref s.heap.objs.size) { s with heap := h', toks := tk }) :
    wpAny (model prog w) A (call (.type "set") [.ref l]) Q E s := by
  obtain ⟨c, tl, hmro⟩ := F.called_set.mro
  have q1 := F.called_set.made
  have q2 := F.called_set.sub
  refine wpAny_call (codeAny_of_tree ?_)
  show wpAny _ _ (callAny (.type "set") _) _ _ _
  have quiet : (Code.builtin "type.__call__" ⟨Value.type "set" :: [Value.ref l], []⟩).quiet = true :=
    Code.quiet_builtin _ (by decide +kernel)
  refine wpAny_pure ⟨quiet, codeAny_builtin F.entry_type_call ?_⟩
  rw [Around.under_plain (weight_type_call_type "set" [.ref l] []) rfl]
  have q3 := F.called_set.notType
  have q4 := F.called_set.canCreate
  have q5 := F.typeCall_set_1 (.ref l)
  repeat (any_goals (first | assumption | wp_step))
  let made := fun (obj : Value) (t : Shared) => ∃ led : Bool, obj = .ref s.heap.objs.size ∧ t = { s with heap := s.heap.push (freshSet led) }
  refine codeAny_mono (code_set_new_1 (.ref l) (E := E) (Q₁ := made) fun led => ⟨led, rfl, rfl⟩) ?_
  rintro (e | fl) t hr
  · exact hr
  cases fl with
  | ret obj =>
    obtain ⟨led, rfl, rfl⟩ := hr
    have hS : (s.heap.push (freshSet led)).get? s.heap.objs.size = some (freshSet led) := Heap.get?_push_size _ rfl
    have hT : Shared.TypeIs { s with heap := s.heap.push (freshSet led) } (.ref s.heap.objs.size) "set" := ⟨_, hS, rfl⟩
    have q6 := F.called_set.init.lookup
    have q7 := F.called_set.init.bind (.ref s.heap.objs.size)
    repeat (any_goals (first | assumption | wp_step))
    let filled := fun (r : Value) (t : Shared) => r = Value.none ∧ ∃ h' tk, t = { s with heap := h', toks := tk } ∧
      h'.SetOf knd s.heap.objs.size (mem ks items.size) (cnt ks items.size) ∧
      ∀ b o, b < s.heap.objs.size → s.heap.get? b = some o → h'.get? b = some o
    refine codeAny_mono (codeAny_call_builtin (R := wants filled E) F.called_set.init.plain F.entry_set_init (check_set_init_1 hT ?_)) ?_
    · obtain ⟨⟨cls, dd, dat, sl⟩, ho, hc, nl, hd⟩ := hl
      simp only at hc hd
      subst hc hd
      have ho' : (s.heap.push (freshSet led)).get? l = some { cls := .type "tuple", dict := dd, data := .seq items nl, slots := sl } :=
        Heap.get?_push_of_some _ ho
      have q8 := F.sub_tuple_set
      have q9 := F.sub_tuple_frozenset
      have q10 : (Value.type "tuple" == Value.type "dict") = false := by decide
      have il : (s.heap.push (freshSet led)).IsTuple l items := ⟨_, ho', rfl, nl, rfl⟩
      unfold Builtin.«set.__init__» noKeywords Builtin.Frozenset.updateFrom
      generalize hPI : pyIter = PI
      wp_walk
      subst hPI
      refine wpAny_pyIter_tuple il ?_
      refine wpAny_bind (wpAny_runValue ?_)
      have lS : l < s.heap.objs.size := Heap.lt_size ho
      have h3 : A.in1.in1.in1.handled = none := by simp [hh]
      have nI : l ≠ (s.heap.push (freshSet led)).objs.size := by
        rw [Heap.size_push]
        exact Nat.ne_of_lt (Nat.lt_succ_of_lt lS)
      have nS : s.heap.objs.size ∉ [(s.heap.push (freshSet led)).objs.size, l] := by
        rw [Heap.size_push]
        simp only [List.mem_cons, List.mem_singleton, List.not_mem_nil, or_false, not_or]
        exact ⟨Nat.ne_of_lt (Nat.lt_succ_self _), Nat.ne_of_gt lS⟩
      refine set_loop ((Walks.tuple h3 _ l nI items).toS) s.heap.objs.size nS ks hk hn hv (items.size - 0) 0 _ (by omega) (Nat.zero_le _)
        ⟨⟨_, Heap.get?_push_size _ rfl, rfl, rfl⟩, il.push _⟩ ?start ?stop
      case start =>
        have g : ((s.heap.push (freshSet led)).push { cls := .type "tuple_iterator", data := .fields #[.ref l, .int 0 0] }).get? s.heap.objs.size = some (freshSet led) :=
          Heap.get?_push_of_some _ hS
        have z := (setObjOf_fresh (knd := knd) led).setOf g (by unfold scanBound; omega)
        exact SetOf_congr z (fun k => by simp [mem]) rfl
      case stop =>
        rintro ⟨h', g', d', tk', os'⟩ mv hS'
        have eg : g' = s.gens := mv.gens
        have ed : d' = s.drawn := mv.drawn
        have eo : os' = s.os := mv.os
        subst eg ed eo
        show wpAny _ _ _ _ _ _
        refine wpAny_pure ?_
        show wpAny _ _ (ret Value.none) _ _ _
        refine wpAny_pure ⟨rfl, h', tk', rfl, hS', fun b o hb e => ?_⟩
        have n1 : b ≠ s.heap.objs.size := Nat.ne_of_lt hb
        have n2 : b ≠ (s.heap.push (freshSet led)).objs.size := by
          rw [Heap.size_push]
          exact Nat.ne_of_lt (Nat.lt_succ_of_lt hb)
        refine mv.heap b o ?_ (Heap.get?_push_of_some _ (Heap.get?_push_of_some _ e))
        simp only [List.mem_cons, List.mem_singleton, List.not_mem_nil, or_false, not_or]
        exact ⟨n1, n2⟩
    · rintro (e | fl2) t2 hr2
      · exact hr2
      cases fl2 with
      | ret r =>
        obtain ⟨rfl, h', tk, rfl, hS', hk'⟩ := hr2
        repeat (any_goals (first | assumption | wp_step))
        exact fin _ _ hS' hk'
      | _ => exact hr2.elim
  | _ => exact hr.elim
end

section
variable {X : Cx}
/-- len(set(a)), a a list or a tuple of texts -/
def tLenSetS (ta : TE) : TE := fun σ H Q => ta σ H fun x H1 => ∃ (l : Addr) (ks : List Str), x = .ref l ∧
  (H1 l = some (.lst (ks.map V.str)) ∨ H1 l = some (.tup (ks.map V.str))) ∧ ks.length < 4000 ∧ Q (.int (cnt ks ks.length : Nat)) H1
theorem val_strs : ∀ {ks : List Str} {its : List Value}, Vals (ks.map V.str) its → ∀ (i : Nat) (v : Value), its[i]? = some v → ∃ t, v = .str (ks.getD i Str.empty) t ∧ i < ks.length
  | [], _, .nil, i, v, e => by simp at e
  | x :: ks, _, .cons r t, 0, v, e => by
    obtain ⟨tk, rfl⟩ := (show ∃ t, _ = Value.str x t from r)
    simp at e
    subst e
    exact ⟨tk, by simp, by simp⟩
  | x :: ks, _, .cons r t, i + 1, v, e => by
    obtain ⟨tk, h1, h2⟩ := val_strs t i v (by simpa using e)
    exact ⟨tk, by simpa using h1, by simpa using h2⟩
theorem pe_lenSetS {a : Expr} {ta : TE} {p p2 q pos : Pos} (hc : X.calm = true) (hg : Gl X "len") (hm : X.mg "len" = none) (hg2 : Gl X "set")
    (hm2 : X.mg "set" = none) (ha : PE X a ta) (na : starEach [a] X.env = (false, eval a X.env) :: starEach [] X.env := by rfl) :
    PE X (.Call (.Name "len" p) [.Call (.Name "set" p2) [a] [] q] [] pos) (tLenSetS ta) := by
  constructor
  intro pins s σ H Q I h
  refine Call_ (ld_blt I hg hm boot_len ?_)
  refine callWith_builtin1 (args_cons ?_ rfl) rfl rfl
  refine Call_ (ld_blt I hg2 hm2 boot_set ?_)
  have hA := ha.run pins s σ H _ I h
  refine callWith_type1 (args_cons (thn hA ?_) na) na rfl
  rintro v s1 ⟨x, H1, I1, r1, l, ks, rfl, hl, hn, k⟩
  cases (show v = Value.ref l from r1)
  refine args_nil ?_
  have val : ∀ (its : List Value), Vals (ks.map V.str) its → ∀ (i : Nat) (v : Value), its.toArray[i]? = some v → ∃ k, ks[i]? = some k ∧ (strKind X.prog X.w).is k v = true ∧ v.scannable = true := by
    intro its r i v e
    obtain ⟨t, e1, hi⟩ := val_strs r i v (by simpa using e)
    subst e1
    refine ⟨ks.getD i Str.empty, by rw [List.getD_eq_getElem?_getD, List.getElem?_eq_getElem hi]; rfl, strKind_is _ _ _ _, rfl⟩
  have fin : ∀ (its : List Value), Vals (ks.map V.str) its → ∀ (h' : Heap) (tk : Nat),
      h'.SetOf (strKind X.prog X.w) s1.heap.objs.size (mem ks its.toArray.size) (cnt ks its.toArray.size) →
      (∀ b o, b < s1.heap.objs.size → s1.heap.get? b = some o → h'.get? b = some o) →
      wpAny (model X.prog X.w) X.A (spliced (backTo pos (starEach [] X.env)))
        (fun vs t => wpAny (model X.prog X.w) X.A (call (.builtin "len") (Value.ref s1.heap.objs.size :: vs)) (EP X pins σ Q) X.xe t) X.xe
        { s1 with heap := h', toks := tk } := by
    intro its r h' tk hS hk
    refine args_nil ?_
    have hl : its.toArray.size = ks.length := by rw [List.size_toArray, ← r.length, List.length_map]
    rw [hl] at hS
    obtain ⟨o, es, ep, t, ho, hex, hd, _, _, _, hf, hsz⟩ := hS
    have I2 : Inv X pins σ H1 { s1 with heap := h', toks := tk } := I1.kept fun b o e => hk b o (Heap.lt_size e) e
    have le := cnt_le ks ks.length
    refine call_len_set ho hex hd hf (by rw [hsz]; omega) ⟨.int (cnt ks ks.length : Nat), H1, I2.tok _, ⟨_, by rw [hsz]⟩, k⟩
  rcases hl with hl | hl
  · obtain ⟨_, its, n, r, ho⟩ := (show ObjOk X.prog X.w H1 s1.heap l (.lst (ks.map V.str)) from I1.hok l _ hl)
    have len : ks.length = its.toArray.size := by rw [List.size_toArray, ← r.length, List.length_map]
    exact set_of_list (knd := strKind X.prog X.w) (I1.ok.hd hc) ⟨_, ho, rfl, n, rfl⟩ len (by omega) (val its r) (fin its r)
  · obtain ⟨_, its, r, o, ho, hcl, n, hd⟩ := (show ObjOk X.prog X.w H1 s1.heap l (.tup (ks.map V.str)) from I1.hok l _ hl)
    have len : ks.length = its.toArray.size := by rw [List.size_toArray, ← r.length, List.length_map]
    exact set_of_tuple (knd := strKind X.prog X.w) (I1.ok.hd hc) ⟨o, ho, hcl, n, hd⟩ len (by omega) (val its r) (fin its r)
end
end Sx

set_option Elab.async false
set_option linter.all false
set_option maxRecDepth 100000
set_option maxHeartbeats 8000000
namespace K
open PySem PySem.Spec PyProof.Rows L2 G D L S C Sx
open C8 (pss_cut tCut)
open PySem.W (dataLt alike)
def strOf : Dat → Str
  | .str x => x
  | _ => Str.empty
/-- different names -/
def namesIn (ds : List Dat) : Bool := ds.all isName && decide ((ds.map strOf).Nodup)
def areNames : Dat → Bool
  | .lst ds => namesIn ds
  | .tup ds => namesIn ds
  | _ => false
def isPair : Dat → Bool
  | .tup [a, b] => isName a && isName b
  | _ => false
def arePairs : Dat → Bool
  | .lst ds => ds.all isPair
  | .tup ds => ds.all isPair
  | _ => false
theorem names_strs : ∀ {ds : List Dat}, ds.all isName = true → ds = (ds.map strOf).map Dat.str
  | [], _ => rfl
  | d :: ds, h => by
    rw [List.all_cons, Bool.and_eq_true] at h
    have ih := names_strs h.2
    cases d with
    | str x =>
      rw [List.map_cons, List.map_cons, ← ih]
      rfl
    | _ => cases h.1
theorem all_map_id {α : Type} (f : α → Bool) (xs : List α) : (xs.map f).all id = xs.all f := by rw [List.all_map]; rfl
theorem map_bl {α : Type} (f : α → Bool) (xs : List α) : (xs.map fun a => V.bl (f a)) = (xs.map f).map V.bl := by rw [List.map_map]; rfl
section
variable {P : Program} {w : World} {K : PySem.W.Frag} {mg : Str → Option Value} {base : Heap}
abbrev s_are_names : Stmt := top 8
theorem sc_are_names : FnScope ["thing", "part"] ["thing"] (defScope s_are_names) := ⟨rfl, rfl, rfl, by decide +kernel, rfl, by decide +kernel, by decide +kernel⟩
theorem names_end {ds : List Dat} {vs : List V} {H : Hp} (hr : RepAll K H vs ds) (hn : ds.all isName = true) :
    vs = (ds.map strOf).map V.str ∧ (decide (V.int (cnt (ds.map strOf) (ds.map strOf).length : Nat) = V.int (vs.length : Nat))) = namesIn ds := by
  have e := names_strs hn
  have e2 : vs = (ds.map strOf).map V.str := RepAll.strs (K := K) (H := H) (by rw [← e]; exact hr)
  refine ⟨e2, ?_⟩
  have hl : vs.length = (ds.map strOf).length := by rw [e2, List.length_map]
  unfold namesIn
  rw [hn, Bool.true_and, hl]
  have c := cnt_all (ds.map strOf) (ds.map strOf).length (Nat.le_refl _)
  rw [List.take_length] at c
  by_cases q : (ds.map strOf).Nodup
  · rw [decide_eq_true q, c.mpr q]
    simp
  · rw [decide_eq_false q]
    exact decide_eq_false fun z => q (c.mp (Int.ofNat.inj (V.int.inj z)))
theorem ok_are_names {f : Addr} {fd : FuncData} (F : Fun K "are_names" "are_names" s_are_names f fd) (T : Bl mg)
    (D_is_name : Def P w K mg base 2 "is_name" ["thing"] (spB K Wd isName)) :
    Fn P w K mg base CX0 3 f fd ["thing"] (spB K (fun d => Wd d ∧ ∀ ds, d = .lst ds ∨ d = .tup ds → ds.length < 4000) areNames) := by
  refine fn_calm F sc_are_names (fun vs H Q E h => ?_) (fun cdv A outer s H vs Q E hc hr h => ?_)
  · obtain ⟨v, d, rfl, _⟩ := h
    rfl
  · obtain ⟨v, d, rfl, hv, ⟨hw, h4⟩, k⟩ := h
    have no : ∀ H', Same H H' → areNames d = false → Q (.bl false) H' := fun H' s e => by
      have z := k H' s
      rw [e] at z
      exact z
    cases d with
    | lst ds =>
      refine ⟨_, (pss_cons (ps_if (PW.pt (pw_or (pt_not (pt_val (pe_callB call_isiT (by rfl) T.isinstanceN (by decide +kernel) (pa_cons (pv 0) (pa_cons (pe_tup (pa_cons (pe_bltn (v := .ty "list") (by rfl) T.listN (by decide +kernel) rfl) (pa_cons (pe_bltn (v := .ty "tuple") (by rfl) T.tupleN (by decide +kernel) rfl) pa_nil))) pa_nil))))) (pw_or1 (pt_not (pt_val (pe_callB (cr_all rfl) (by rfl) T.allN (by decide +kernel) (pa_cons (pe_lc (own := [("part", 1)]) (g := gName 1) (tt := tYes) rfl sc_are_names.nd (pi_list (pv 0)) (blkOk_by (N := ["thing", "part"]) (sc := defScope s_are_names) (by decide +kernel)) (fun _ _ _ _ _ => (pg_name (i := 1) sc_are_names.nd rfl (Or.inl rfl))) (fun _ _ _ _ _ => pts_nil) (fun _ _ _ _ _ => (pe_def D_is_name hc (hr.mono (by decide)) (pa_cons (pv 1) pa_nil)))) pa_nil)))))))
  (pss_one (ps_ret pe_bl))
  pss_nil)
 (pss_one (ps_ret (pe_cmpR op_eq (pe_lenSetS rfl (by rfl) T.lenN (by rfl) T.setN (pv 0)) (pe_callB call_len_seq (by rfl) T.lenN (by decide +kernel) (pa_cons (pv 0) pa_nil)) (nomark _))))), ?_⟩
      refine ⟨_, rfl, by show 2 ≤ sizeLine; decide, fun p hp => ?_⟩
      have s1 := same_upd (o := .tup [.ty "list", .ty "tuple"]) hp
      have hv1 := Rep.mono s1 _ hv
      refine ⟨_, p, _, _, _, _, rfl, upd_same, .cons (.ty _) (.cons (.ty _) .nil), hv1.ty, kit_seq hv1, _, rfl, ?_⟩
      refine iteF ?_
      obtain ⟨a, xs, rfl, ha, hx⟩ := hv1
      refine ⟨_, rfl, a, rfl, ⟨xs, SqL.of ha⟩, fun D hD => lc_map (walk_list (xs := xs)) ds (fun d => .bl (isName d)) hx.length.symm ?_ hD (fun H' s => SqL.of (s _ _ ha)) ?_ ?_⟩
      · rw [hx.length]
        exact Nat.lt_of_le_of_lt (wd_lst hw).1 (by decide)
      · rintro i d y H1 H2 Kt hd hs ⟨rfl, hy⟩ kt
        obtain ⟨d', hd', hr'⟩ := hx.get hy
        obtain rfl : d' = d := Option.some.inj (hd'.symm.trans hd)
        exact ⟨rfl, _, rfl, y, d', rfl, Rep.mono hs _ hr', (wd_lst hw).2 _ (List.mem_of_getElem? hd), fun H' s => kt H' s⟩
      · intro H1 hs hd
        refine ⟨D, ds.map isName, rfl, SqL.of (by rw [← map_bl]; exact hd), _, rfl, ?_⟩
        rw [all_map_id]
        have s2 := s1.trans hs
        refine ite2 (fun e => ?_) (fun e => ?_)
        · exact no H1 s2 (by
            show namesIn ds = false
            unfold namesIn
            have : ds.all isName = false := by simpa using e
            rw [this]; rfl)
        · have hn : ds.all isName = true := by simpa using e
          obtain ⟨ev, eq⟩ := names_end (RepAll.mono hs _ hx) hn
          have ha2 := hs _ _ ha
          refine ⟨_, rfl, a, ds.map strOf, rfl, .inl (by rw [← ev]; exact ha2), by rw [List.length_map]; exact h4 ds (.inl rfl), ?_⟩
          refine ⟨_, rfl, a, _, rfl, .inl (SqL.of ha2), rfl, ?_⟩
          rw [eq]
          exact k H1 s2
    | tup ds =>
      refine ⟨_, (pss_cons (ps_if (PW.pt (pw_or (pt_not (pt_val (pe_callB call_isiT (by rfl) T.isinstanceN (by decide +kernel) (pa_cons (pv 0) (pa_cons (pe_tup (pa_cons (pe_bltn (v := .ty "list") (by rfl) T.listN (by decide +kernel) rfl) (pa_cons (pe_bltn (v := .ty "tuple") (by rfl) T.tupleN (by decide +kernel) rfl) pa_nil))) pa_nil))))) (pw_or1 (pt_not (pt_val (pe_callB (cr_all rfl) (by rfl) T.allN (by decide +kernel) (pa_cons (pe_lc (own := [("part", 1)]) (g := gName 1) (tt := tYes) rfl sc_are_names.nd (pi_tup (pv 0)) (blkOk_by (N := ["thing", "part"]) (sc := defScope s_are_names) (by decide +kernel)) (fun _ _ _ _ _ => (pg_name (i := 1) sc_are_names.nd rfl (Or.inl rfl))) (fun _ _ _ _ _ => pts_nil) (fun _ _ _ _ _ => (pe_def D_is_name hc (hr.mono (by decide)) (pa_cons (pv 1) pa_nil)))) pa_nil)))))))
  (pss_one (ps_ret pe_bl))
  pss_nil)
 (pss_one (ps_ret (pe_cmpR op_eq (pe_lenSetS rfl (by rfl) T.lenN (by rfl) T.setN (pv 0)) (pe_callB call_len_seq (by rfl) T.lenN (by decide +kernel) (pa_cons (pv 0) pa_nil)) (nomark _))))), ?_⟩
      refine ⟨_, rfl, by show 2 ≤ sizeLine; decide, fun p hp => ?_⟩
      have s1 := same_upd (o := .tup [.ty "list", .ty "tuple"]) hp
      have hv1 := Rep.mono s1 _ hv
      refine ⟨_, p, _, _, _, _, rfl, upd_same, .cons (.ty _) (.cons (.ty _) .nil), hv1.ty, kit_seq hv1, _, rfl, ?_⟩
      refine iteF ?_
      obtain ⟨a, xs, rfl, ha, hx⟩ := hv1
      refine ⟨_, rfl, a, rfl, ⟨xs, SqT.of ha⟩, fun D hD => lc_map (walk_tup (xs := xs)) ds (fun d => .bl (isName d)) hx.length.symm ?_ hD (fun H' s => SqT.of (s _ _ ha)) ?_ ?_⟩
      · rw [hx.length]
        exact Nat.lt_of_le_of_lt (wd_tup hw).1 (by decide)
      · rintro i d y H1 H2 Kt hd hs ⟨rfl, hy⟩ kt
        obtain ⟨d', hd', hr'⟩ := hx.get hy
        obtain rfl : d' = d := Option.some.inj (hd'.symm.trans hd)
        exact ⟨rfl, _, rfl, y, d', rfl, Rep.mono hs _ hr', (wd_tup hw).2 _ (List.mem_of_getElem? hd), fun H' s => kt H' s⟩
      · intro H1 hs hd
        refine ⟨D, ds.map isName, rfl, SqL.of (by rw [← map_bl]; exact hd), _, rfl, ?_⟩
        rw [all_map_id]
        have s2 := s1.trans hs
        refine ite2 (fun e => ?_) (fun e => ?_)
        · exact no H1 s2 (by
            show namesIn ds = false
            unfold namesIn
            have : ds.all isName = false := by simpa using e
            rw [this]; rfl)
        · have hn : ds.all isName = true := by simpa using e
          obtain ⟨ev, eq⟩ := names_end (RepAll.mono hs _ hx) hn
          have ha2 := hs _ _ ha
          refine ⟨_, rfl, a, ds.map strOf, rfl, .inr (by rw [← ev]; exact ha2), by rw [List.length_map]; exact h4 ds (.inr rfl), ?_⟩
          refine ⟨_, rfl, a, _, rfl, .inr (SqT.of ha2), rfl, ?_⟩
          rw [eq]
          exact k H1 s2
    | _ =>
      refine ⟨_, (pss_cons (ps_if (PW.pt (pw_or (pt_not (pt_val (pe_callB call_isiT (by rfl) T.isinstanceN (by decide +kernel) (pa_cons (pv 0) (pa_cons (pe_tup (pa_cons (pe_bltn (v := .ty "list") (by rfl) T.listN (by decide +kernel) rfl) (pa_cons (pe_bltn (v := .ty "tuple") (by rfl) T.tupleN (by decide +kernel) rfl) pa_nil))) pa_nil))))) (pw_or1 (pt_not (pt_val (pe_callB (cr_all rfl) (by rfl) T.allN (by decide +kernel) (pa_cons (pe_lc (own := [("part", 1)]) (g := gName 1) (tt := tYes) rfl sc_are_names.nd (pi_list (pv 0)) (blkOk_by (N := ["thing", "part"]) (sc := defScope s_are_names) (by decide +kernel)) (fun _ _ _ _ _ => (pg_name (i := 1) sc_are_names.nd rfl (Or.inl rfl))) (fun _ _ _ _ _ => pts_nil) (fun _ _ _ _ _ => (pe_def D_is_name hc (hr.mono (by decide)) (pa_cons (pv 1) pa_nil)))) pa_nil)))))))
  (pss_one (ps_ret pe_bl))
  pss_nil)
 (pss_one (ps_ret (pe_cmpR op_eq (pe_lenSetS rfl (by rfl) T.lenN (by rfl) T.setN (pv 0)) (pe_callB call_len_seq (by rfl) T.lenN (by decide +kernel) (pa_cons (pv 0) pa_nil)) (nomark _))))), ?_⟩
      refine ⟨_, rfl, by show 2 ≤ sizeLine; decide, fun p hp => ?_⟩
      have s1 := same_upd (o := .tup [.ty "list", .ty "tuple"]) hp
      have hv1 := Rep.mono s1 _ hv
      refine ⟨_, p, _, _, _, _, rfl, upd_same, .cons (.ty _) (.cons (.ty _) .nil), hv1.ty, kit_seq hv1, _, rfl, ?_⟩
      exact iteT (iteT (no _ s1 rfl))
end
end K

set_option Elab.async false
set_option linter.all false
set_option maxRecDepth 100000
set_option maxHeartbeats 8000000
namespace K
open PySem PySem.Spec PyProof.Rows L2 G D L
open C8 (pss_cut tCut)

abbrev s_law_take : Stmt := top 13
theorem sc_law_take : FnScope ["bag", "many", "cell", "mixed", "drawn", "begin", "second"] ["bag", "many"] (defScope s_law_take) := ⟨rfl, rfl, rfl, by decide +kernel, rfl, by decide +kernel, by decide +kernel⟩
section
variable {P : Program} {w : World} {K : PySem.W.Frag} {mg : Str → Option Value} {base : Heap}
theorem ok_take {f : Addr} {fd : FuncData} (F : Fun K "_law_take" "_law_take" s_law_take f fd) (T : Bl mg) :
    Fn P w K mg base CX0 2 f fd ["bag", "many"] spTake := by
  refine fn_calm F sc_law_take (fun vs H Q E h => ?_) (fun cdv A outer s H vs Q E hc hr h => ?_)
  · obtain ⟨b, m, rfl, _⟩ := h
    rfl
  · obtain ⟨b, m, rfl, ⟨l, hB⟩, m0, m1, k⟩ := h
    obtain ⟨c0, c1, c2, ms, h1, h2, p0, p1, p1', p2, pl, pm⟩ := id hB
    refine ⟨_, (pss_cut (ps_if (pt_cmpR op_eq (pe_ix ix_list (pv 0) pe_int (fun _ _ => rfl)) pe_int (nomark _))
  (pss_cons (ps_set (i := 2) sc_law_take.nd rfl (Or.inl rfl) pe_int)
 (pss_cut (ps_if (pt_cmpR op_lt (pe_ix ix_list (pv 0) pe_int (fun _ _ => rfl)) (pe_callB call_len (by rfl) T.lenN (by decide +kernel) (pa_cons (pe_ix ix_list (pv 0) pe_int (fun _ _ => rfl)) pa_nil)) (nomark _))
  (pss_one (ps_set (i := 2) sc_law_take.nd rfl (Or.inl rfl) (pe_ix ix_seq (pe_ix ix_list (pv 0) pe_int (fun _ _ => rfl)) (pe_ix ix_list (pv 0) pe_int (fun _ _ => rfl)) (fun _ _ => rfl))))
  pss_nil)
 (pss_cons (ps_augS (pv 0) pe_int pget_list pe_int ip_add set_list)
 (pss_cut (ps_if (pt_cmpR op_ge (pv 2) (pe_op op_pow pe_int pe_int) (nomark _))
  (pss_one (ps_asg (pv 2) (pg_sub (pv 0) pe_int set_list)))
  pss_nil)
 (pss_cons (ps_set (i := 3) sc_law_take.nd rfl (Or.inl rfl) (pe_op op_add (pe_op op_add (pe_op op_mul (pe_ix ix_list (pv 0) pe_int (fun _ _ => rfl)) pe_int) (pe_op op_mod (pe_callTy call_int1 (by rfl) T.intN (by decide +kernel) (pa_cons (pv 2) pa_nil)) pe_int)) (pe_op op_mul pe_int (pe_ix ix_list (pv 0) pe_int (fun _ _ => rfl)))))
 (pss_one (ps_asg (pe_op op_mod (pe_callTy call_int1 (by rfl) T.intN (by decide +kernel) (pa_cons (pv 3) pa_nil)) pe_int) (pg_sub (pv 0) pe_int set_list))))))))
  pss_nil)
 (pss_cons (ps_if (pt_cmpR op_gt (pe_ix ix_list (pv 0) pe_int (fun _ _ => rfl)) pe_int (nomark _))
  (pss_cons (ps_set (i := 4) sc_law_take.nd rfl (Or.inl rfl) (pe_op op_modN (pe_callTy call_int1 (by rfl) T.intN (by decide +kernel) (pa_cons (pe_ix ix_list (pv 0) pe_int (fun _ _ => rfl)) pa_nil)) (pv 1)))
 (pss_cons (ps_asg (pe_op op_fdivN (pe_ix ix_list (pv 0) pe_int (fun _ _ => rfl)) (pv 1)) (pg_sub (pv 0) pe_int set_list))
 (pss_one (ps_ret (pv 4)))))
  pss_nil)
 (pss_cons (ps_set (i := 5) sc_law_take.nd rfl (Or.inl rfl) (pe_op op_mod (pe_callTy call_int1 (by rfl) T.intN (by decide +kernel) (pa_cons (pe_op op_mul (pe_op op_add (pe_ix ix_list (pv 0) pe_int (fun _ _ => rfl)) pe_int) pe_int) pa_nil)) pe_int))
 (pss_cons (ps_set (i := 6) sc_law_take.nd rfl (Or.inl rfl) (pe_op op_mod (pe_callTy call_int1 (by rfl) T.intN (by decide +kernel) (pa_cons (pe_op op_mul (pe_op op_mod (pe_callTy call_int1 (by rfl) T.intN (by decide +kernel) (pa_cons (pe_op op_mul (pv 5) (pv 5)) pa_nil)) pe_int) pe_int) pa_nil)) pe_int))
 (pss_one (ps_ret (pe_op op_modN (pe_callTy call_int1 (by rfl) T.intN (by decide +kernel) (pa_cons (pe_op op_fdiv (pv 6) pe_int) pa_nil)) (pv 1)))))))), ?_⟩
    have nlb : l ≠ b := ne_of h2 h1 (fun z => by
      have z' := (HO.lst.inj z)
      cases ms with
      | nil => cases z'
      | cons a r => cases r with
        | nil => cases z'
        | cons a2 r => cases r with
          | nil => cases z'
          | cons a3 r => cases r with
            | nil => cases z'
            | cons a4 r => cases z')
    -- the bag's first place is nought, or a draw is still in it
    refine ⟨fun σ' H' => ∃ (d0 d1 d2 : Int) (x y : Option V), σ' = [some (.ref b), some (.int m), x, y, none, none, none] ∧ SameBut b H H' ∧
      H' b = some (.lst [.int d0, .int d1, .int d2, .ref l]) ∧ 0 ≤ d0 ∧ 0 ≤ d1 ∧ d1 < 2147483648 ∧ 0 ≤ d2, ?_, ?_⟩
    · refine ⟨_, rfl, b, _, _, _, rfl, rfl, SqL.of h1, rfl, rfl, _, rfl, ?_⟩
      refine ite2 (fun e0 => ?_) (fun e0 => ?_)
      · refine ⟨fun σ' H' => ∃ c : Int, σ' = [some (.ref b), some (.int m), some (.int c), none, none, none, none] ∧ H' = H ∧ 0 ≤ c, ?_, ?_⟩
        · refine ⟨_, rfl, b, _, _, _, rfl, rfl, SqL.of h1, rfl, _, rfl, b, _, _, _, rfl, rfl, SqL.of h1, rfl, _, _, rfl, .inl ⟨_, SqL.of h2, rfl⟩, _, _, rfl, rfl, _, rfl, ?_⟩
          refine ite2 (fun e1 => ?_) (fun e1 => ?_)
          · have e1' := of_decide_eq_true e1
            rw [List.length_map] at e1'
            have hj : c2.toNat < ms.length := by omega
            have hx : (ms.map V.int)[c2.toNat]? = some (.int (ms[c2.toNat])) := by rw [List.getElem?_map, List.getElem?_eq_getElem hj]; rfl
            have hx' := atI_nat hx
            rw [Int.toNat_of_nonneg p2] at hx'
            refine ⟨_, rfl, b, _, _, _, rfl, rfl, SqL.of h1, rfl, _, rfl, b, _, _, _, rfl, rfl, SqL.of h1, rfl, .inl ⟨_, _, _, _, rfl, rfl, SqL.of h2, hx', ?_⟩⟩
            exact ⟨_, rfl, rfl, pm _ (List.getElem_mem hj)⟩
          · exact ⟨0, rfl, rfl, Int.le_refl _⟩
        · rintro σ' H' ⟨c, rfl, rfl, hc0⟩
          refine ⟨_, rfl, b, _, _, _, rfl, rfl, SqL.of h1, rfl, _, _, rfl, rfl, b, _, _, 2, rfl, rfl, h1, rfl, ?_⟩
          refine ⟨fun σ' H1 => ∃ d : Int, σ' = [some (.ref b), some (.int m), some (.int c), none, none, none, none] ∧ SameBut b H' H1 ∧ H1 b = some (.lst [.int d, .int c1, .int (c2 + 1), .ref l]) ∧ 0 ≤ d, ?_, ?_⟩
          · refine ⟨_, rfl, _, _, rfl, rfl, ⟨by decide, by decide, by decide⟩, _, _, rfl, rfl, _, rfl, ?_⟩
            refine ite2 (fun e1 => ?_) (fun e1 => ?_)
            · exact ⟨_, rfl, _, rfl, b, _, _, 0, rfl, rfl, upd_same, rfl, c, rfl, fun x o n e => by rw [upd_ne n, upd_ne n]; exact e, upd_same, hc0⟩
            · exact ⟨c0, rfl, fun x o n e => by rw [upd_ne n]; exact e, upd_same, p0⟩
          · rintro σ' H1 ⟨d, rfl, sb, g1, hd⟩
            refine ⟨_, rfl, b, _, _, _, rfl, rfl, SqL.of g1, rfl, _, _, rfl, rfl, .inl ⟨by omega, by omega⟩, _, rfl, .inl ⟨_, rfl, _, _, rfl, rfl, by show (0 : Int) < 2147483647; decide, _, _, rfl, rfl, ?_⟩⟩
            refine ⟨_, rfl, b, _, _, _, rfl, rfl, SqL.of g1, rfl, _, _, rfl, rfl, .inl ⟨by decide, by decide⟩, _, _, rfl, rfl, ?_⟩
            refine ⟨_, rfl, .inl ⟨_, rfl, _, _, rfl, rfl, by show (0 : Int) < 2147483647; decide, _, rfl, b, _, _, 1, rfl, rfl, g1, rfl, ?_⟩⟩
            refine ⟨d, _, c2 + 1, _, _, rfl, fun x o n e => by rw [upd_ne n]; exact sb x o n e, upd_same, hd, ?_, ?_, by omega⟩
            · exact Int.emod_nonneg _ (by decide)
            · exact Int.lt_trans (Int.emod_lt_of_pos _ (by decide)) (by decide)
      · exact ⟨c0, c1, c2, none, none, rfl, .refl _ _, h1, p0, p1, p1', p2⟩
    · rintro σ' H' ⟨d0, d1, d2, x, y, rfl, sb, g1, q0, q1, q1', q2⟩
      have g2 := sb _ _ nlb h2
      refine ⟨_, rfl, b, _, _, _, rfl, rfl, SqL.of g1, rfl, _, _, rfl, rfl, _, rfl, ?_⟩
      refine ite2 (fun e0 => ?_) (fun e0 => ?_)
      · refine ⟨_, rfl, b, _, _, _, rfl, rfl, SqL.of g1, rfl, .inl ⟨_, rfl, _, rfl, _, _, rfl, rfl, by show m ≠ 0; omega, ?_⟩⟩
        refine ⟨_, rfl, b, _, _, _, rfl, rfl, SqL.of g1, rfl, _, rfl, _, _, rfl, rfl, ⟨by omega, by omega⟩, _, rfl, b, _, _, 0, rfl, rfl, g1, rfl, ?_⟩
        refine ⟨_, rfl, k _ _ ?_ ?_ (fun x o n e => by rw [upd_ne n]; exact sb x o n e) ⟨l, hB, _, _, _, _, upd_same, by rw [upd_ne nlb]; exact g2, ?_, q1, q1', q2, pl, pm⟩⟩
        · rw [Int.fmod_eq_emod_of_nonneg _ (by omega)]; exact Int.emod_nonneg _ (by omega)
        · rw [Int.fmod_eq_emod_of_nonneg _ (by omega)]; exact Int.emod_lt_of_pos _ m0
        · rw [Int.fdiv_eq_ediv_of_nonneg _ (by omega)]; exact Int.ediv_nonneg q0 (by omega)
      · refine ⟨_, rfl, b, _, _, _, rfl, rfl, SqL.of g1, rfl, _, _, rfl, rfl, _, _, rfl, rfl, .inl ⟨by omega, by omega⟩, .inl ⟨_, rfl, _, _, rfl, rfl, by show (0 : Int) < 1000000007; decide, ?_⟩⟩
        have b1 : 0 ≤ (d1 + 1) * 39373 % 1000000007 := Int.emod_nonneg _ (by decide)
        have b2 : (d1 + 1) * 39373 % 1000000007 < 1000000007 := Int.emod_lt_of_pos _ (by decide)
        generalize (d1 + 1) * 39373 % 1000000007 = z at b1 b2 ⊢
        refine ⟨_, rfl, _, rfl, _, _, rfl, rfl, .inl ⟨by omega, by omega⟩, .inl ⟨_, rfl, _, _, rfl, rfl, by show (0 : Int) < 998244353; decide, ?_⟩⟩
        have b3 : 0 ≤ z * z % 998244353 := Int.emod_nonneg _ (by decide)
        have b4 : z * z % 998244353 < 998244353 := Int.emod_lt_of_pos _ (by decide)
        generalize z * z % 998244353 = z2 at b3 b4 ⊢
        refine ⟨_, _, rfl, rfl, .inl ⟨by omega, by omega⟩, .inl ⟨_, rfl, _, _, rfl, rfl, by show (0 : Int) < 998244353; decide, ?_⟩⟩
        have b5 : 0 ≤ z2 * 30011 % 998244353 := Int.emod_nonneg _ (by decide)
        generalize z2 * 30011 % 998244353 = z3 at b5 ⊢
        refine ⟨_, rfl, _, _, rfl, rfl, ⟨by decide, by decide⟩, .inl ⟨_, rfl, _, rfl, _, _, rfl, rfl, by show m ≠ 0; omega, ?_⟩⟩
        refine k _ _ ?_ ?_ sb ⟨l, hB, _, _, _, _, g1, g2, q0, q1, q1', q2, pl, pm⟩
        · rw [Int.fmod_eq_emod_of_nonneg _ (by omega)]; exact Int.emod_nonneg _ (by omega)
        · rw [Int.fmod_eq_emod_of_nonneg _ (by omega)]; exact Int.emod_lt_of_pos _ m0
end
end K

set_option Elab.async false
set_option linter.all false
set_option maxRecDepth 100000
set_option maxHeartbeats 4000000
/-! The rules that speak of the written part, with that part named: for use within comprehensions. -/
namespace Kx
open PySem PySem.Spec PyProof.Rows L2 G D L S C Sx
open PySem.W (dataLt)
section
variable {X : Cx} {K : PySem.W.Frag}
theorem ix_listK (e : X.K = K) : IxR X (rIxL K) := e ▸ ix_list
theorem ix_tupK (e : X.K = K) : IxR X (rIxT K) := e ▸ ix_tup
theorem ix_seqK (e : X.K = K) : IxR X (rIx K) := e ▸ ix_seq
theorem call_lenK (e : X.K = K) : CallR X (.builtin "len") (fun xs H Q => ∃ x n, xs = [x] ∧ LenV K x H n ∧ Q (.int (n : Nat)) H) := e ▸ call_len
theorem call_isiK' (e : X.K = K) : CallR X (.builtin "isinstance") (rIsi K) := e ▸ call_isi
theorem call_isiTK (e : X.K = K) : CallR X (.builtin "isinstance") (rIsiT K) := e ▸ call_isiT
theorem op_ltAK (e : X.K = K) (hu : X.A.units + 64 < cLine) : OpR X (compareOp .Lt) (rCmpA K dataLt) := e ▸ op_ltA hu
theorem op_geAK (e : X.K = K) (hu : X.A.units + 64 < cLine) : OpR X (compareOp .GtE) (rCmpA K fun d e => !dataLt d e) := e ▸ op_geA hu
theorem op_eq_strK (e : X.K = K) (hu : X.A.units + 1 < cLine) : OpR X (compareOp .Eq) (rEqStr K) := e ▸ op_eq_str hu
theorem call_reprK (e : X.K = K) (hc : Calm X.A) (hM : HasMods X.base) (hu : X.A.units + 110 < cLine) : CallR X (.builtin "repr") (rRepr K) := e ▸ call_repr hc hM hu
end
end Kx

set_option Elab.async false
set_option linter.all false
set_option maxRecDepth 100000
set_option maxHeartbeats 4000000
/-! x == y, x an instance whose class has an == of its own. -/
namespace Ex
open PySem PySem.Spec PyProof.Rows L2 G D L S C Sx Kx
/-- the == of the class at C, with its promise -/
structure EqM (P : Program) (w : World) (K : PySem.W.Frag) (mg : Str → Option Value) (base : Heap) (k : Nat) (C : Addr) (ps : List Str) (sp : Sp) where
  f : Addr
  fd : FuncData
  ok : Fn P w K mg base CX0 k f fd ps sp
  b : Binds K fd ps []
  hs : PySem.W.findIn K (.ref C) "__eq__" = some (some (.ref f))
  hf : PySem.W.isFn K (.ref f) = true
  nf : ∀ T ∈ ["NoneType", "bool", "int", "str", "list", "tuple", "dict"], PySem.W.notFirst K C (.type T) = true
  nfo : PySem.W.notFirst K C (.ref C) = true
theorem py_type {d : Dat} (h : d.pure = true) : PySem.W.dataType d.py = d.ty ∧ ∃ T ∈ ["NoneType", "bool", "int", "str", "list", "tuple", "dict"], d.ty = .type T := by
  cases d with
  | obj C a => cases h
  | _ => exact ⟨rfl, _, by decide, rfl⟩
section
variable {X : Cx} {k : Nat} {C : Addr} {ps : List Str} {sp : Sp}
def rEqO (K : PySem.W.Frag) (C : Addr) (sp : Sp) : R2 := fun x y H Q => ∃ a dx fs d, x = .ref a ∧ H a = some (.ins C dx fs) ∧ Rep K H y d ∧
  (d.pure = true ∨ ∃ a2, d = .obj C a2) ∧ sp [x, y] H (fun v H' => ∃ b, v = .bl b ∧ Q (.bl b) H') E0
theorem op_eqO (M : EqM X.prog X.w X.K X.mg X.base k C ps sp) (hc : Calm X.A) (hr : Room k X.A) (hps : ps.length = 2) : OpR X (compareOp .Eq) (rEqO X.K C sp) := by
  intro pins s σ H x y v u Q I rx ry h
  obtain ⟨a, dx, fs, d, rfl, ha, hd, hk, q⟩ := h
  cases (show v = Value.ref a from rx)
  obtain ⟨mA, J, _⟩ := ins_get I.hok ha
  obtain ⟨od, J, _⟩ := J.look
  obtain ⟨m, hF⟩ := I.fr
  have run : wpAny (model X.prog X.w) X.A (call (.ref M.f) [.ref a, u]) (PySem.W.CmpBack (EP X pins σ Q)) X.xe s := by
    have rv : Vals [V.ref a, y] [Value.ref a, u] := .cons rfl (.cons ry .nil)
    have go := callR_fn M.ok hc hr M.b .nil (E := E0) pass0 pins s σ H [V.ref a, y] [Value.ref a, u] _ I rv q
    refine wpAny_mono go ?_ fun _ _ z => z
    rintro r s' ⟨z, H', I', rz, b, rfl, qb⟩
    cases (show r = Value.bool b from rz)
    exact ⟨.bl b, H', I', rfl, qb⟩
  rcases hk with hp | ⟨a2, rfl⟩
  · obtain ⟨as, hr2, _⟩ := Rep.reads I d y u hd hp ry
    have lk := PySem.W.looks_reads (M := model X.prog X.w) hr2
    obtain ⟨e, T, hT, e2⟩ := py_type hp
    rw [e, e2] at lk
    exact PySem.W.cmp_K (op := .Eq) hr.units0 hF I.ok.mod.kin J lk (M.nf T hT) M.hs M.hf run
  · obtain ⟨rfl, o, dx2, fs2, e2⟩ := hd
    cases (show u = Value.ref a2 from ry)
    obtain ⟨mB, J', _⟩ := ins_get I.hok e2
    obtain ⟨od', J', _⟩ := J'.look
    exact PySem.W.cmp_K (op := .Eq) hr.units0 hF I.ok.mod.kin J J'.type M.nfo M.hs M.hf run
/-- x == a text, x data or an instance of the class at C -/
def rEqS (K : PySem.W.Frag) (C : Addr) (sp : Sp) : R2 := fun x y H Q => rEqStr K x y H Q ∨ rEqO K C sp x y H Q
theorem op_eqS (M : EqM X.prog X.w X.K X.mg X.base k C ps sp) (hc : Calm X.A) (hr : Room k X.A) (hps : ps.length = 2) (hu : X.A.units + 1 < cLine) : OpR X (compareOp .Eq) (rEqS X.K C sp) := by
  intro pins s σ H x y v u Q I rx ry h
  rcases h with h | h
  · exact op_eq_str hu pins s σ H x y v u Q I rx ry h
  · exact op_eqO M hc hr hps pins s σ H x y v u Q I rx ry h
/-- an instance of the class at C is not equal to a text -/
def spNe (C : Addr) : Sp := fun vs H Q _ => ∃ a t dx fs, vs = [.ref a, .str t] ∧ H a = some (.ins C dx fs) ∧ ∀ H', Same H H' → Q (.bl false) H'
end
end Ex

set_option Elab.async false
set_option linter.all false
set_option maxRecDepth 100000
set_option maxHeartbeats 4000000
/-! Written data: an expression of constants, lists, tuples and small dicts, read at one stroke. -/
namespace Lt
open PySem PySem.Spec PyProof.Rows L2 G D L S C Sx Kx
def constD : Expr → Option Dat
  | .Constant .none _ _ => some .non
  | .Constant (.bool b) _ _ => some (.bl b)
  | .Constant (.int i) _ _ => some (.int i)
  | .Constant (.str x) _ _ => some (.str x)
  | _ => none
def keyOf : Expr → Option Key
  | .Constant (.int i) _ _ => some (.inl i)
  | .Constant (.str x) _ _ => some (.inr x)
  | _ => none
def litD : Nat → Expr → Option Dat
  | 0, _ => none
  | n + 1, e => match e with
    | .List es _ => (es.mapM (litD n)).map .lst
    | .Tuple es _ _ => (es.mapM (litD n)).map .tup
    | .Dict [] [] _ => some (.dct [] [])
    | .Dict [some k] [v] _ => match keyOf k, litD n v with
      | some kk, some d => some (.dct [kk] [d])
      | _, _ => none
    | .UnaryOp .USub a _ => match litD n a with
      | some (.int i) => some (.int (-i))
      | _ => none
    | .BinOp a .Pow b _ => match litD n a, litD n b with
      | some (.int i), some (.int j) => if 0 ≤ j ∧ j ≤ 1000000 ∧ i.natAbs < 2 ^ 64 then some (.int (i ^ j.toNat)) else none
      | _, _ => none
    | e => constD e
/-- the union: the first one's word stands -/
def uni (A B : Hp) : Hp := fun x => match A x with
  | some o => some o
  | none => B x
theorem uni_l {A B : Hp} : Same A (uni A B) := fun x o e => by unfold uni; rw [e]
theorem uni_r {A B : Hp} (h : ∀ x o, B x = some o → A x = none) : Same B (uni A B) := fun x o e => by unfold uni; rw [h x o e]; exact e
theorem uni_sub {A B H : Hp} (a : Same A H) (b : Same B H) : Same (uni A B) H := fun x o e => by
  unfold uni at e
  cases q : A x with
  | some u => rw [q] at e; rw [← Option.some.inj e]; exact a x u q
  | none => rw [q] at e; exact b x o e
/-- N is new over H, in H' -/
structure New (H N H' : Hp) : Prop where
  old : Same H H'
  sub : Same N H'
  dis : ∀ x o, N x = some o → H x = none
theorem New.nil (H : Hp) : New H (fun _ => none) H := ⟨.refl H, fun _ _ e => (nomatch e), fun _ _ e => (nomatch e)⟩
theorem New.trans {H N H1 N2 H2 : Hp} (a : New H N H1) (b : New H1 N2 H2) : New H (uni N N2) H2 := by
  refine ⟨a.old.trans b.old, uni_sub (a.sub.trans b.old) b.sub, fun x o e => ?_⟩
  unfold uni at e
  cases q : N x with
  | some u => exact a.dis x u q
  | none =>
    rw [q] at e
    exact a.old.free (b.dis x o e)
theorem New.right {H N H1 N2 H2 : Hp} (a : New H N H1) (b : New H1 N2 H2) : Same N2 (uni N N2) := uni_r fun x o e => a.sub.free (b.dis x o e)
theorem New.put {H N H1 : Hp} (a : New H N H1) {p : Addr} {o : HO} (hp : H1 p = none) : New H (upd N p o) (upd H1 p o) ∧ Same N (upd N p o) := by
  have np : N p = none := a.sub.free hp
  refine ⟨⟨fun x u e => ?_, fun x u e => ?_, fun x u e => ?_⟩, same_upd np⟩
  · rw [upd_ne (ne_of_none (a.old _ _ e) hp)]
    exact a.old _ _ e
  · by_cases q : x = p
    · subst q
      rw [upd_same] at e ⊢
      exact e
    · rw [upd_ne q] at e ⊢
      exact a.sub _ _ e
  · by_cases q : x = p
    · subst q
      exact a.old.free hp
    · rw [upd_ne q] at e
      exact a.dis _ _ e
def tLit (K : PySem.W.Frag) (d : Dat) : TE := fun _ H Q => ∀ v N H', New H N H' → Rep K N v d → Q v H'
def tLits (K : PySem.W.Frag) (ds : List Dat) : TA := fun _ H Q => ∀ vs N H', New H N H' → RepAll K N vs ds → Q vs H'
section
variable {X : Cx}
theorem pe_const {e : Expr} {d : Dat} (h : constD e = some d) : PE X e (tLit X.K d) := by
  have one : ∀ {e : Expr} {v : V}, PE X e (tC v) → (∀ N, Rep X.K N v d) → PE X e (tLit X.K d) := by
    intro e v he hr
    refine ⟨fun pins s σ H Q I k => he.run pins s σ H Q I ?_⟩
    exact k v _ H (.nil H) (hr _)
  unfold constD at h
  split at h <;> first | (cases h; done) | (cases h; first | exact one pe_non fun _ => rfl | exact one pe_bl fun _ => rfl | exact one pe_int fun _ => rfl | exact one pe_str fun _ => rfl)
theorem lit_star {n : Nat} {e : Expr} {d : Dat} (h : litD n e = some d) (es : List Expr) : starEach (e :: es) X.env = (false, eval e X.env) :: starEach es X.env := by
  cases n with
  | zero => cases h
  | succ n => cases e <;> first | rfl | (unfold litD constD at h; cases h)
theorem pa_lits {n : Nat} (ih : ∀ e d, litD n e = some d → PE X e (tLit X.K d)) : ∀ (es : List Expr) (ds : List Dat), es.mapM (litD n) = some ds → PA X es (tLits X.K ds)
  | [], ds, h => by
    cases (show some ([] : List Dat) = some ds from by simpa using h)
    refine ⟨fun pos pins s σ H Q I k => pa_nil.run pos pins s σ H Q I ?_⟩
    exact k [] _ H (.nil H) rfl
  | e :: es, ds, h => by
    rw [List.mapM_cons] at h
    cases h1 : litD n e with
    | none => rw [h1] at h; cases h
    | some d =>
      cases h2 : es.mapM (litD n) with
      | none => rw [h1, h2] at h; cases h
      | some dr =>
        rw [h1, h2] at h
        cases (show some (d :: dr) = some ds from h)
        have pe := ih e d h1
        have pr := pa_lits ih es dr h2
        refine ⟨fun pos pins s σ H Q I k => (pa_cons pe pr (lit_star h1 es)).run pos pins s σ H Q I ?_⟩
        intro v N H1 n1 r1 vs N2 H2 n2 r2
        exact k _ _ _ (n1.trans n2) ⟨v, vs, rfl, Rep.mono uni_l _ r1, RepAll.mono (n1.right n2) _ r2⟩
theorem mapM_len {α β : Type} {f : α → Option β} : ∀ {xs : List α} {ys : List β}, xs.mapM f = some ys → ys.length = xs.length
  | [], ys, h => by cases (show some ([] : List β) = some ys from by simpa using h); rfl
  | x :: xs, ys, h => by
    rw [List.mapM_cons] at h
    cases h1 : f x with
    | none => rw [h1] at h; cases h
    | some d =>
      cases h2 : xs.mapM f with
      | none => rw [h1, h2] at h; cases h
      | some dr =>
        rw [h1, h2] at h
        cases (show some (d :: dr) = some ys from h)
        simp [mapM_len h2]
/-- all displays are of a size that Python lets -/
def sizes : Nat → Dat → Bool
  | 0, _ => false
  | n + 1, .lst ds => decide (ds.length ≤ 1000) && ds.all (sizes n)
  | n + 1, .tup ds => decide (ds.length ≤ 1000) && ds.all (sizes n)
  | n + 1, .dct _ ds => ds.all (sizes n)
  | _, _ => true
theorem lit_lst {es : List Expr} {ds : List Dat} {pos : Pos} (h : PA X es (tLits X.K ds)) (hz : ds.length ≤ 1000) : PE X (.List es pos) (tLit X.K (.lst ds)) := by
  refine ⟨fun pins s σ H Q I k => (pe_lst h).run pins s σ H Q I ?_⟩
  intro vs N H1 n1 r1
  have l := r1.length
  refine ⟨Nat.le_trans (by omega : vs.length ≤ 1000) (by decide), fun p hp => ?_⟩
  obtain ⟨n2, sN⟩ := n1.put (o := .lst vs) hp
  exact k _ _ _ n2 ⟨p, vs, rfl, upd_same, RepAll.mono sN _ r1⟩
theorem lit_tup {es : List Expr} {ds : List Dat} {x : Nat} {pos : Pos} (h : PA X es (tLits X.K ds)) (hz : ds.length ≤ 1000) : PE X (.Tuple es x pos) (tLit X.K (.tup ds)) := by
  refine ⟨fun pins s σ H Q I k => (pe_tup h).run pins s σ H Q I ?_⟩
  intro vs N H1 n1 r1
  have l := r1.length
  refine ⟨Nat.le_trans (by omega : vs.length ≤ 1000) (by decide), fun p hp => ?_⟩
  obtain ⟨n2, sN⟩ := n1.put (o := .tup vs) hp
  exact k _ _ _ n2 ⟨p, vs, rfl, upd_same, RepAll.mono sN _ r1⟩
theorem lit_dct0 {pos : Pos} : PE X (.Dict [] [] pos) (tLit X.K (.dct [] [])) := by
  refine ⟨fun pins s σ H Q I k => pe_dnewK.run pins s σ H Q I ?_⟩
  intro p hp
  obtain ⟨n2, _⟩ := (New.nil H).put (o := .dK []) hp
  exact k _ _ _ n2 ⟨p, [], rfl, upd_same, rfl, rfl⟩
theorem key_pe {k : Expr} {kk : Key} (h : keyOf k = some kk) : PE X k (tC (kV kk)) := by
  unfold keyOf at h
  split at h
  · cases h; exact pe_int
  · cases h; exact pe_str
  · cases h
theorem lit_dct1 {k e : Expr} {kk : Key} {d : Dat} {pos : Pos} (hk : keyOf k = some kk) (he : PE X e (tLit X.K d)) : PE X (.Dict [some k] [e] pos) (tLit X.K (.dct [kk] [d])) := by
  have base : PE X (.Dict [some k] [e] pos) (tDisp [(tC (kV kk), tLit X.K d)]) :=
    pe_disp (pps_cons (key_pe hk) he pps_nil) (by rfl) (by rfl) (fun z => by cases z) (show 1 ≤ 15 by decide)
  refine ⟨fun pins s σ H Q I q => base.run pins s σ H Q I ?_⟩
  intro p hp v N H1 n1 r1
  have hp1 : H1 p = some (.dK []) := n1.old _ _ upd_same
  have pN : N p = none := by
    cases z : N p with
    | none => rfl
    | some o => have := n1.dis p o z; rw [upd_same] at this; cases this
  refine ⟨hp1, [(kk, v)], rfl, show 1 ≤ 15 by decide, ?_⟩
  have e : mergeK [] [(kk, v)] = [(kk, v)] := rfl
  rw [e]
  refine q _ (upd N p (.dK [(kk, v)])) _ ⟨fun x o ex => ?_, fun x o ex => ?_, fun x o ex => ?_⟩ ⟨p, [(kk, v)], rfl, upd_same, rfl, v, [], rfl, Rep.mono (same_upd pN) _ r1, rfl⟩
  · have nx : x ≠ p := ne_of_none ex hp
    rw [upd_ne nx]
    exact n1.old _ _ (by rw [upd_ne nx]; exact ex)
  · by_cases qx : x = p
    · subst qx
      rw [upd_same] at ex ⊢
      exact ex
    · rw [upd_ne qx] at ex ⊢
      exact n1.sub _ _ ex
  · by_cases qx : x = p
    · subst qx; exact hp
    · rw [upd_ne qx] at ex
      have := n1.dis _ _ ex
      rw [upd_ne qx] at this
      exact this
/-- any written datum -/
theorem pe_lit_n : ∀ (n : Nat) (e : Expr) (d : Dat), litD n e = some d → sizes n d = true → PE X e (tLit X.K d) := by
  intro n
  induction n with
  | zero => intro e d h; cases h
  | succ n ih =>
    intro e d h hz
    have many : ∀ (es : List Expr) (ds : List Dat), es.mapM (litD n) = some ds → ds.all (sizes n) = true → PA X es (tLits X.K ds) := by
      intro es
      induction es with
      | nil =>
        intro ds h1 _
        cases (show some ([] : List Dat) = some ds from by simpa using h1)
        exact ⟨fun pos pins s σ H Q I k => pa_nil.run pos pins s σ H Q I (k [] _ H (.nil H) rfl)⟩
      | cons e es ihe =>
        intro ds h1 hs
        rw [List.mapM_cons] at h1
        cases h2 : litD n e with
        | none => rw [h2] at h1; cases h1
        | some d1 =>
          cases h3 : es.mapM (litD n) with
          | none => rw [h2, h3] at h1; cases h1
          | some dr =>
            rw [h2, h3] at h1
            cases (show some (d1 :: dr) = some ds from h1)
            rw [List.all_cons, Bool.and_eq_true] at hs
            refine ⟨fun pos pins s σ H Q I k => (pa_cons (ih e d1 h2 hs.1) (ihe dr h3 hs.2) (lit_star h2 es)).run pos pins s σ H Q I ?_⟩
            intro v N H1 n1 r1 vs N2 H2 n2 r2
            exact k _ _ _ (n1.trans n2) ⟨v, vs, rfl, Rep.mono uni_l _ r1, RepAll.mono (n1.right n2) _ r2⟩
    unfold litD at h
    split at h
    · rename_i es pos
      cases h1 : es.mapM (litD n) with
      | none => rw [h1] at h; cases h
      | some ds =>
        rw [h1] at h
        cases h
        have hz' : (decide (ds.length ≤ 1000) && ds.all (sizes n)) = true := hz
        rw [Bool.and_eq_true, decide_eq_true_eq] at hz'
        exact lit_lst (many es ds h1 hz'.2) hz'.1
    · rename_i es x pos
      cases h1 : es.mapM (litD n) with
      | none => rw [h1] at h; cases h
      | some ds =>
        rw [h1] at h
        cases h
        have hz' : (decide (ds.length ≤ 1000) && ds.all (sizes n)) = true := hz
        rw [Bool.and_eq_true, decide_eq_true_eq] at hz'
        exact lit_tup (many es ds h1 hz'.2) hz'.1
    · cases h
      exact lit_dct0
    · rename_i k v pos
      cases h1 : keyOf k with
      | none => rw [h1] at h; cases h
      | some kk =>
        cases h2 : litD n v with
        | none => rw [h1, h2] at h; cases h
        | some d1 =>
          rw [h1, h2] at h
          cases h
          have hz' : [d1].all (sizes n) = true := hz
          rw [List.all_cons, Bool.and_eq_true] at hz'
          exact lit_dct1 h1 (ih v d1 h2 hz'.1)
    · rename_i a pos
      cases h1 : litD n a with
      | none => rw [h1] at h; cases h
      | some d1 =>
        rw [h1] at h
        cases d1 with
        | int i =>
          cases h
          have pa := ih a _ h1 (by cases n with | zero => cases h1 | succ n => rfl)
          refine ⟨fun pins s σ H Q I k => (pe_un un_neg pa).run pins s σ H Q I ?_⟩
          intro v N H1 n1 r1
          cases (show v = V.int i from r1)
          exact ⟨i, rfl, k _ _ _ n1 rfl⟩
        | _ => cases h
    · rename_i a b pos
      cases h1 : litD n a with
      | none => rw [h1] at h; cases h
      | some d1 =>
        cases h2 : litD n b with
        | none => rw [h1, h2] at h; cases d1 <;> cases h
        | some d2 =>
          rw [h1, h2] at h
          cases d1 with
          | int i =>
            cases d2 with
            | int j =>
              simp only at h
              split at h
              · rename_i c
                cases h
                have pa := ih a _ h1 (by cases n with | zero => cases h1 | succ n => rfl)
                have pb := ih b _ h2 (by cases n with | zero => cases h2 | succ n => rfl)
                refine ⟨fun pins s σ H Q I k => (pe_op op_pow pa pb).run pins s σ H Q I ?_⟩
                intro v N H1 n1 r1 u N2 H2 n2 r2
                cases (show v = V.int i from r1)
                cases (show u = V.int j from r2)
                exact ⟨i, j, rfl, rfl, c, k _ _ _ (n1.trans n2) rfl⟩
              · cases h
            | _ => cases h
          | _ => cases h
    · exact pe_const h
/-- some written items, then others -/
def tMix (K : PySem.W.Frag) (ds : List Dat) (t : TA) : TA := fun σ H Q => ∀ vs N H', New H N H' → RepAll K N vs ds → t σ H' fun us H2 => Q (vs ++ us) H2
theorem pa_mix0 (n : Nat) : ∀ (k : Nat) (l : List Expr) (ds : List Dat) (t : TA), (l.take k).mapM (litD n) = some ds → ds.all (sizes n) = true → PA X (l.drop k) t → PA X l (tMix X.K ds t) := by
  intro k
  induction k with
  | zero =>
    intro l ds t h _ hr
    cases (show some ([] : List Dat) = some ds from by simpa using h)
    refine ⟨fun pos pins s σ H Q I q => hr.run pos pins s σ H Q I ?_⟩
    exact q [] _ H (.nil H) rfl
  | succ k ih =>
    intro l ds t h hz hr
    cases l with
    | nil =>
      cases (show some ([] : List Dat) = some ds from by simpa using h)
      refine ⟨fun pos pins s σ H Q I q => hr.run pos pins s σ H Q I ?_⟩
      exact q [] _ H (.nil H) rfl
    | cons e es =>
      rw [List.take_succ_cons, List.mapM_cons] at h
      cases h1 : litD n e with
      | none => rw [h1] at h; cases h
      | some d =>
        cases h2 : (es.take k).mapM (litD n) with
        | none => rw [h1, h2] at h; cases h
        | some dr =>
          rw [h1, h2] at h
          cases (show some (d :: dr) = some ds from h)
          rw [List.all_cons, Bool.and_eq_true] at hz
          have pr := ih es dr t h2 hz.2 hr
          refine ⟨fun pos pins s σ H Q I q => (pa_cons (pe_lit_n n e d h1 hz.1) pr (lit_star h1 es)).run pos pins s σ H Q I ?_⟩
          intro v N H1 n1 r1 vs N2 H2 n2 r2
          exact q (v :: vs) _ _ (n1.trans n2) ⟨v, vs, rfl, Rep.mono uni_l _ r1, RepAll.mono (n1.right n2) _ r2⟩
theorem pa_mix {K : PySem.W.Frag} (n k : Nat) {l : List Expr} {ds : List Dat} {t : TA} (h : (l.take k).mapM (litD n) = some ds) (hz : ds.all (sizes n) = true) (hr : PA X (l.drop k) t) (hK : X.K = K := by rfl) :
    PA X l (tMix K ds t) := hK ▸ pa_mix0 n k l ds t h hz hr
/-- with the written part named: h by rfl or decide +kernel -/
theorem pe_lit {K : PySem.W.Frag} {e : Expr} {d : Dat} (n : Nat) (h : litD n e = some d) (hz : sizes n d = true) (hK : X.K = K := by rfl) : PE X e (tLit K d) := hK ▸ pe_lit_n n e d h hz
end
end Lt

set_option Elab.async false
set_option linter.all false
set_option maxRecDepth 100000
set_option maxHeartbeats 4000000
/-! A frozen part beside a bag. -/
namespace Fz
open PySem PySem.Spec PyProof.Rows L2 G D L S C Sx Kx Lt
/-- F is frozen in H; the bag at b lies outside of it -/
structure Fr (F H : Hp) (b : Addr) : Prop where
  same : Same F H
  out : F b = none
  cell : ∃ l o, BagL H b l ∧ F l = Option.some o
theorem Fr.bag {F H : Hp} {b : Addr} (f : Fr F H b) : Bag H b := let ⟨l, _, q, _⟩ := f.cell; ⟨l, q⟩
theorem Fr.cell' {F H F' H' : Hp} {b : Addr} (f : Fr F H b) (s : Same H H') (t : Same F F') : ∃ l o, BagL H' b l ∧ F' l = Option.some o :=
  let ⟨l, o, q, r⟩ := f.cell; ⟨l, o, q.keep s, t _ _ r⟩
theorem Fr.grow {F H H' : Hp} {b : Addr} (f : Fr F H b) (s : Same H H') : Fr F H' b := ⟨f.same.trans s, f.out, f.cell' s (.refl _)⟩
theorem Fr.took {F H H' : Hp} {b : Addr} (f : Fr F H b) (s : SameBut b H H') (g : BagTo H H' b) : Fr F H' b := by
  obtain ⟨l, o, q, r⟩ := f.cell
  obtain ⟨l', q1, q2⟩ := g
  rw [← q.one q1] at q2
  exact ⟨s.from f.same f.out, f.out, l, o, q2, r⟩
theorem Fr.some {F H : Hp} {b : Addr} (f : Fr F H b) : ∃ o, H b = Option.some o := by
  obtain ⟨l, c0, c1, c2, ms, h, _⟩ := f.bag
  exact ⟨_, h⟩
theorem Fr.lit {F H N H' : Hp} {b : Addr} (f : Fr F H b) (n : New H N H') : Fr (uni F N) H' b ∧ Same F (uni F N) ∧ Same N (uni F N) := by
  refine ⟨⟨uni_sub (f.same.trans n.old) n.sub, ?_, f.cell' n.old uni_l⟩, uni_l, uni_r fun x o e => f.same.free (n.dis x o e)⟩
  unfold uni
  rw [f.out]
  cases q : N b with
  | none => rfl
  | some u =>
    obtain ⟨o, e⟩ := f.some
    rw [n.dis b u q] at e
    cases e
theorem Fr.put {F H : Hp} {b p : Addr} {o : HO} (f : Fr F H b) (hp : H p = none) : Fr (upd F p o) (upd H p o) b ∧ Same F (upd F p o) := by
  have pF : F p = none := f.same.free hp
  have bp : b ≠ p := by
    obtain ⟨u, e⟩ := f.some
    exact ne_of_none e hp
  refine ⟨⟨fun x u e => ?_, by rw [upd_ne bp]; exact f.out, f.cell' (same_upd hp) (same_upd pF)⟩, same_upd pF⟩
  by_cases q : x = p
  · subst q
    rw [upd_same] at e ⊢
    exact e
  · rw [upd_ne q] at e ⊢
    exact f.same _ _ e
/-- the same, the frozen part without its name -/
theorem Fr.put' {F H : Hp} {b p : Addr} {o : HO} (f : Fr F H b) (hp : H p = none) : ∃ F', Fr F' (upd H p o) b ∧ Same F F' ∧ F' p = Option.some o :=
  ⟨_, (f.put hp).1, (f.put hp).2, upd_same⟩
theorem Fr.lit' {F H N H' : Hp} {b : Addr} (f : Fr F H b) (n : New H N H') : ∃ F', Fr F' H' b ∧ Same F F' ∧ Same N F' :=
  ⟨_, (f.lit n).1, (f.lit n).2.1, (f.lit n).2.2⟩
theorem Fr.ne {F H : Hp} {b p : Addr} {o : HO} (f : Fr F H b) (h : F p = Option.some o) : p ≠ b := fun z => by
  rw [z, f.out] at h
  cases h
theorem Fr.rep {K : PySem.W.Frag} {F H : Hp} {b : Addr} {v : V} {d : Dat} (f : Fr F H b) (h : Rep K F v d) : Rep K H v d := Rep.mono f.same d h
/-- from F and H on: the frozen part has grown by new things alone, all but the bag stands -/
structure Go (b : Addr) (F H F' H' : Hp) : Prop where
  fr : Fr F' H' b
  up : Same F F'
  but : SameBut b H H'
  new : ∀ x o, F' x = Option.some o → F x = Option.some o ∨ H x = none
section
variable {b p : Addr} {F H F1 H1 F2 H2 N : Hp} {o : HO}
theorem Go.refl (f : Fr F H b) : Go b F H F H := ⟨f, .refl F, .refl b H, fun _ _ e => .inl e⟩
theorem Go.trans (a : Go b F H F1 H1) (c : Go b F1 H1 F2 H2) : Go b F H F2 H2 := by
  refine ⟨c.fr, a.up.trans c.up, a.but.trans c.but, fun x u e => ?_⟩
  rcases c.new x u e with q | q
  · exact a.new x u q
  · refine .inr ?_
    by_cases hx : x = b
    · obtain ⟨o, z⟩ := a.fr.some
      rw [hx, z] at q
      cases q
    · cases hH : H x with
      | none => rfl
      | some u' =>
        rw [a.but x u' hx hH] at q
        cases q
theorem Go.bag (a : Go b F H F1 H1) : Bag H1 b := a.fr.bag
theorem Go.same (a : Go b F H F1 H1) : Same F1 H1 := a.fr.same
theorem Go.out (a : Go b F H F1 H1) : F1 b = none := a.fr.out
theorem Go.ne (a : Go b F H F1 H1) (h : F1 p = Option.some o) : p ≠ b := a.fr.ne h
theorem Go.grow (a : Go b F H F1 H1) (s : Same H1 H2) : Go b F H F1 H2 := ⟨a.fr.grow s, a.up, a.but.same s, a.new⟩
theorem Go.took (a : Go b F H F1 H1) (s : SameBut b H1 H2) (g : BagTo H1 H2 b) : Go b F H F1 H2 := ⟨a.fr.took s g, a.up, a.but.trans s, a.new⟩
theorem Go.lit' (a : Go b F H F1 H1) (n : New H1 N H2) : ∃ F', Go b F H F' H2 ∧ Same F1 F' ∧ Same N F' := by
  obtain ⟨f, s, t⟩ := a.fr.lit n
  refine ⟨_, a.trans ⟨f, s, Same.but n.old, fun x u e => ?_⟩, s, t⟩
  unfold uni at e
  cases q : F1 x with
  | some w => rw [q] at e; exact .inl e
  | none => rw [q] at e; exact .inr (n.dis x u e)
theorem Go.put' (a : Go b F H F1 H1) (hp : H1 p = none) : ∃ F', Go b F H F' (upd H1 p o) ∧ Same F1 F' ∧ F' p = Option.some o := by
  obtain ⟨f, s⟩ := a.fr.put (o := o) hp
  refine ⟨_, a.trans ⟨f, s, Same.but (same_upd hp), fun x u e => ?_⟩, s, upd_same⟩
  by_cases q : x = p
  · rw [q]; exact .inr hp
  · rw [upd_ne q] at e; exact .inl e
end
/-- something is drawn: data that are good in the way of G -/
def spDraw (K : PySem.W.Frag) (Gd : Dat → Prop) : Sp := fun vs H Q _ => ∃ (b : Addr) (F : Hp), vs = [.ref b] ∧ Fr F H b ∧
  ∀ v d F' H', Go b F H F' H' → Rep K F' v d → Gd d → Q v H'
/-- something is drawn off a datum -/
def spDraw1 (K : PySem.W.Frag) (Pd Gd : Dat → Prop) : Sp := fun vs H Q _ => ∃ (b : Addr) (F : Hp) (u : V) (e : Dat), vs = [.ref b, u] ∧ Fr F H b ∧ Rep K F u e ∧ Pd e ∧
  ∀ v d F' H', Go b F H F' H' → Rep K F' v d → Gd d → Q v H'
section
open C
variable {b : Addr} {F H1 : Hp} {K : PySem.W.Frag}
/-- a comprehension over a range, each turn of which draws a datum -/
theorem lc_draw {lo : Int} {n : Nat} {g : TG} {te : TE} {vs : List Nat} {σ : L2.St} {D : Addr} {Qd : Hp → Prop} (Gd : Dat → Prop) (hz : n < sizeLine) (hD : H1 D = none) (f : Fr F H1 b)
    (turn : ∀ (i : Nat) (F' H : Hp) (Kt : V → Hp → Prop), Fr F' H b →
      (∀ v d F2 H2, Go b F' H F2 H2 → Rep K F2 v d → Gd d → Kt v H2) →
      g (.int (lo + (i : Nat))) (wipe σ vs) H fun σ2 H2 => wipe σ2 vs = wipe σ vs ∧ te σ2 H2 Kt)
    (done : ∀ F' H xs ds, Go b F H1 F' H → H D = some (.lst xs) → F' D = none → D ≠ b → RepAll K F' xs ds → ds.length = n → (∀ d ∈ ds, Gd d) → Qd H) :
    ∃ W : Nat → Nat → Hp → Prop, (∃ m, W 0 m (upd H1 D (.lst []))) ∧ ∀ i m H, W i m H →
      ((Itr lo n).stop i H ∧ Qd H) ∨ ((Itr lo n).go i H ∧ ∃ Nx : Hp → Prop, (∀ H', Nx H' → ∃ m', m' < m ∧ W (i + 1) m' H') ∧ ∀ x H', (Itr lo n).yld i H x H' →
        g x (wipe σ vs) H' fun σ2 H2 => wipe σ2 vs = wipe σ vs ∧ tYes σ2 H2 fun b H3 =>
          if b = true then te σ2 H3 fun y H4 => ∃ acc, H4 D = some (.lst acc) ∧ acc.length < sizeLine ∧ Nx (upd H4 D (.lst (acc ++ [y]))) else Nx H3) := by
  have Db : D ≠ b := fun z => by
    obtain ⟨o, e⟩ := f.some
    rw [z, e] at hD
    cases hD
  refine lc_it walk_range (fun i H => ∃ F' xs ds, Go b F H1 F' H ∧ H D = some (.lst xs) ∧ F' D = none ∧ RepAll K F' xs ds ∧ ds.length = i ∧ ∀ d ∈ ds, Gd d)
    ⟨F, [], [], (Go.refl f).grow (same_upd hD), upd_same, f.same.free hD, rfl, rfl, fun _ h => nomatch h⟩ (fun _ _ _ _ => trivial) ?_ ?_
  · rintro i x H H' hi ⟨F', xs, ds, go, hd, fd, hr, hl, hg⟩ ⟨rfl, rfl⟩
    refine turn i F' H' _ go.fr fun v d F2 H2 g2 r2 gd => ?_
    have hd2 := g2.but _ _ Db hd
    have fd2 : F2 D = none := by
      cases q : F2 D with
      | none => rfl
      | some o =>
        rcases g2.new _ _ q with z | z
        · rw [fd] at z; cases z
        · rw [hd] at z; cases z
    have g3 := go.trans g2
    have lx := hr.length
    refine ⟨xs, hd2, by rw [lx, hl]; omega, F2, xs ++ [v], ds ++ [d], ⟨⟨fun y o e => ?_, g3.out, ?_⟩, g3.up, fun y o ny e => ?_, g3.new⟩, upd_same, fd2, RepAll.append (RepAll.mono g2.up _ hr) (.one r2), ?_, ?_⟩
    · have : y ≠ D := fun z => by rw [z, fd2] at e; cases e
      rw [upd_ne this]
      exact g3.same _ _ e
    · obtain ⟨l, o, ⟨c0, c1, c2, ms, q1, q2, q3⟩, hl2⟩ := g3.fr.cell
      have lD : l ≠ D := fun z => by
        rw [z, fd2] at hl2
        cases hl2
      refine ⟨l, o, ⟨c0, c1, c2, ms, ?_, ?_, q3⟩, hl2⟩
      · rw [upd_ne Db.symm]; exact q1
      · rw [upd_ne lD]; exact q2
    · have : y ≠ D := ne_of_none e hD
      rw [upd_ne this]
      exact g3.but _ _ ny e
    · rw [List.length_append, hl]; rfl
    · intro e he
      rcases List.mem_append.mp he with he | he
      · exact hg e he
      · rw [List.mem_singleton] at he
        subst he
        exact gd
  · rintro H ⟨F', xs, ds, go, hd, fd, hr, hl, hg⟩
    exact done F' H xs ds go hd fd Db hr hl hg
end
end Fz

set_option Elab.async false
set_option linter.all false
set_option maxRecDepth 100000
set_option maxHeartbeats 8000000
namespace K
open PySem PySem.Spec PyProof.Rows L2 G D L S C Sx Kx Ex Lt
open Fz hiding Fr
open C8 (pss_cut tCut)
open PySem.W (dataLt alike)
/-- fit to be shown, as a reckoning -/
def fineB (k n : Nat) (d : Dat) : Bool := d.pure && d.py.showable && decide (d.py.depth ≤ k) && decide (d.py.shown.length ≤ n)
theorem fine_of {k n : Nat} {d : Dat} (h : fineB k n d = true) : Fine k n d := by
  unfold fineB at h
  simp only [Bool.and_eq_true, decide_eq_true_eq] at h
  exact ⟨h.1.1.1, h.1.1.2, h.1.2, h.2⟩
/-- how many items stand at the top -/
def top1 : Dat → Nat
  | .lst ds => ds.length
  | .tup ds => ds.length
  | _ => 0
structure Gd (d : Dat) : Prop where
  fi : Fine 8 4000 d
  wd : Wd d
  tp : top1 d ≤ 1000
abbrev gdB (d : Dat) : Bool := fineB 8 4000 d && wd d && decide (top1 d ≤ 1000)
theorem gd_of {d : Dat} (h : gdB d = true) : Gd d := by
  simp only [gdB, Bool.and_eq_true, decide_eq_true_eq] at h
  exact ⟨fine_of h.1.1, h.1.2, h.2⟩
theorem rep_mem {K : PySem.W.Frag} {H : Hp} {ds : List Dat} {vs : List V} {v : V} (r : RepAll K H vs ds) (h : v ∈ vs) : ∃ d ∈ ds, Rep K H v d := by
  obtain ⟨i, hi, e⟩ := List.mem_iff_getElem.mp h
  obtain ⟨d, hd, q⟩ := r.get (show vs[i]? = some v by rw [List.getElem?_eq_getElem hi, e])
  exact ⟨d, List.mem_of_getElem? hd, q⟩
/-- a fresh bag -/
def spBag (K : PySem.W.Frag) : Sp := fun vs H Q _ => ∃ (a : Addr) (ns : List Int), vs = [.ref a] ∧ SqL K H a (ns.map V.int) ∧ ns.length ≤ 63 ∧
  ∀ b l H', H b = none → H l = none → Same H H' → BagL H' b l → Q (.ref b) H'
/-- equal data, written alike -/
def spAlike (K : PySem.W.Frag) : Sp := fun vs H Q _ => ∃ (v u : V) (d : Dat), vs = [v, u] ∧ Rep K H v d ∧ Rep K H u d ∧ d.py.canLay0 = true ∧ Fine 40 sizeLine d ∧ Q (.bl true) H
section
variable {K : PySem.W.Frag} {H : Hp}
mutual
theorem rep_dp : ∀ (d : Dat) {v : V}, Rep K H v d → d.pure = true → d.py.canLay0 = true → Dp K H v d.py
  | .non, _, h, _, _ => by cases (show _ = V.non from h); exact .non
  | .bl b, _, h, _, _ => by cases (show _ = V.bl b from h); exact .bl b
  | .int i, _, h, _, _ => by cases (show _ = V.int i from h); exact .int i
  | .str x, _, h, _, _ => by cases (show _ = V.str x from h); exact .str x
  | .lst ds, _, ⟨a, xs, e, ha, hs⟩, p, c => by
    subst e
    exact .lst (SqL.of ha) (rep_dpAll ds hs p (by simpa [Dat.py, PyData.canLay0] using c))
  | .tup ds, _, ⟨a, xs, e, ha, hs⟩, p, c => by
    subst e
    exact .tup (SqT.of ha) (rep_dpAll ds hs p (by simpa [Dat.py, PyData.canLay0] using c))
  | .dct ks ds, _, _, _, c => by simp [Dat.py, PyData.canLay0] at c
  | .obj _ _, _, _, p, _ => by cases p
theorem rep_dpAll : ∀ (ds : List Dat) {vs : List V}, RepAll K H vs ds → pureAll ds = true → PyData.canLayAll0 (pyAll ds) = true → DpAll K H vs (pyAll ds)
  | [], _, h, _, _ => by cases (show _ = [] from h); exact .nil
  | d :: ds, _, ⟨v, t, e, h1, h2⟩, p, c => by
    subst e
    have p' : (d.pure && pureAll ds) = true := p
    rw [Bool.and_eq_true] at p'
    have c' : d.py.canLay0 = true ∧ PyData.canLayAll0 (pyAll ds) = true := by
      simpa [pyAll, PyData.canLayAll0] using c
    exact .cons (rep_dp d h1 p'.1 c'.1) (rep_dpAll ds h2 p'.2 c'.2)
end
end
section
variable {P : Program} {w : World} {K : PySem.W.Frag} {mg : Str → Option Value} {base : Heap}
abbrev s_law_bag : Stmt := top 12
theorem sc_law_bag : FnScope ["script", "cell"] ["script"] (defScope s_law_bag) := ⟨rfl, rfl, rfl, by decide +kernel, rfl, by decide +kernel, by decide +kernel⟩
theorem ok_bag {f : Addr} {fd : FuncData} (F : Fun K "_law_bag" "_law_bag" s_law_bag f fd) (T : Bl mg) : Fn P w K mg base CX0 2 f fd ["script"] (spBag K) := by
  refine fn_calm F sc_law_bag (fun vs H Q E h => ?_) (fun cdv A outer s H vs Q E hc hr h => ?_)
  · obtain ⟨a, ns, rfl, _⟩ := h
    rfl
  · obtain ⟨a, ns, rfl, ha, hl, k⟩ := h
    refine ⟨_, (pss_one (ps_ret (pe_lst (pa_cons pe_int (pa_cons pe_int (pa_cons pe_int (pa_cons (pe_lc (own := [("cell", 1)]) (g := gName 1) (tt := tYes) rfl sc_law_bag.nd (pi_list (pe_slice sl_list (pv 0) po_none (po_some pe_int))) (blkOk_by (N := ["script", "cell"]) (sc := defScope s_law_bag) (by decide +kernel)) (fun _ _ _ _ _ => (pg_name (i := 1) sc_law_bag.nd rfl (Or.inl rfl))) (fun _ _ _ _ _ => pts_nil) (fun _ _ _ _ _ => (pe_callB call_abs (by rfl) T.absN (by decide +kernel) (pa_cons (pv 1) pa_nil)))) pa_nil))))))), ?_⟩
    refine ⟨_, rfl, _, rfl, a, _, rfl, ha, fun p hp => ?_⟩
    have ec : cutV (ns.map V.int) none (some 63) = (ns.take 63).map V.int := by
      unfold cutV
      rw [List.length_map]
      have e1 : HT.sIx ns.length 0 none = 0 := rfl
      have e2 : HT.sIx ns.length ns.length (some 63) = min 63 ns.length := by simp [HT.sIx]
      rw [e1, e2, List.drop_zero, Nat.sub_zero, ← List.map_take, Nat.min_eq_right hl, List.take_length]
      rw [List.take_of_length_le hl]
    have s1 := same_upd (o := .lst (cutV (ns.map V.int) none (some 63))) hp
    rw [ec] at s1 ⊢
    refine ⟨p, rfl, ⟨_, SqL.of upd_same⟩, fun D hD => ?_⟩
    have l1 : (ns.take 63).length ≤ 63 := List.length_take_le _ _
    have ab : ∀ i : Int, 0 ≤ (if i < 0 then -i else i) := fun i => by split <;> omega
    refine lc_map (walk_list (xs := (ns.take 63).map V.int)) (ns.take 63) (fun i => .int (if i < 0 then -i else i)) (by rw [List.length_map]) (by rw [List.length_map]; exact Nat.lt_of_le_of_lt l1 (by decide)) hD
      (fun H' s => SqL.of (s _ _ upd_same)) ?_ ?_
    · rintro i n y H1 H2 Kt hn hs ⟨rfl, hy⟩ kt
      have : y = V.int n := by
        rw [List.getElem?_map, hn] at hy
        exact (Option.some.inj hy).symm
      subst this
      exact ⟨rfl, _, rfl, n, rfl, kt _ (.refl _)⟩
    · intro H1 hs hd
      refine ⟨by show 4 ≤ sizeLine; decide, fun b hb => ?_⟩
      have s2 := s1.trans hs
      have hD2 : H D = none := s1.free hD
      refine k b D _ (s2.free hb) hD2 (s2.trans (same_upd hb)) ⟨0, 1234567891, 0, (ns.take 63).map (fun i => if i < 0 then -i else i), upd_same, ?_, by decide, by decide, by decide, by decide, ?_, ?_⟩
      · rw [upd_ne (ne_of_none hd hb), hd, List.map_map]
        rfl
      · rw [List.length_map]
        exact l1
      · intro m hm
        obtain ⟨i, _, rfl⟩ := List.mem_map.mp hm
        exact ab i
abbrev s_law_one : Stmt := top 14
theorem sc_law_one : FnScope ["bag", "things"] ["bag", "things"] (defScope s_law_one) := ⟨rfl, rfl, rfl, by decide +kernel, rfl, by decide +kernel, by decide +kernel⟩
theorem ok_one {f : Addr} {fd : FuncData} (F : Fun K "_law_one" "_law_one" s_law_one f fd) (T : Bl mg)
    (D_law_take : Def P w K mg base 2 "_law_take" ["bag", "many"] spTake) : Fn P w K mg base CX0 3 f fd ["bag", "things"] spOne := by
  refine fn_calm F sc_law_one (fun vs H Q E h => ?_) (fun cdv A outer s H vs Q E hc hr h => ?_)
  · obtain ⟨b, t, xs, rfl, _⟩ := h
    rfl
  · obtain ⟨b, t, xs, rfl, hb, ht, ntb, ne, hl, k⟩ := h
    refine ⟨_, (pss_one (ps_ret (pe_ix ix_list (pv 1) (pe_def D_law_take hc (hr.mono (by decide)) (pa_cons (pv 0) (pa_cons (pe_callB call_len_seq (by rfl) T.lenN (by decide +kernel) (pa_cons (pv 1) pa_nil)) pa_nil))) (fun _ _ => rfl)))), ?_⟩
    have l1 : 0 < xs.length := List.length_pos_iff.mpr ne
    refine ⟨_, rfl, _, rfl, _, rfl, t, _, rfl, .inl (SqL.of ht), b, _, rfl, hb, by omega, by omega, fun i H1 h0 h1 sb hb1 => ?_⟩
    have hi : i.toNat < xs.length := by omega
    have ei : ((i.toNat : Nat) : Int) = i := Int.toNat_of_nonneg h0
    have hx : xs[i.toNat]? = some xs[i.toNat] := List.getElem?_eq_getElem hi
    have ha := atI_nat hx
    rw [ei] at ha
    exact ⟨t, xs, i, _, rfl, rfl, SqL.of (sb _ _ ntb ht), ha, k _ _ (List.getElem_mem hi) sb hb1⟩
abbrev s_law_alike : Stmt := top 15
theorem sc_law_alike : FnScope ["found", "due"] ["found", "due"] (defScope s_law_alike) := ⟨rfl, rfl, rfl, by decide +kernel, rfl, by decide +kernel, by decide +kernel⟩
end
end K

set_option Elab.async false
set_option linter.all false
set_option maxRecDepth 100000
set_option maxHeartbeats 8000000
namespace K
open PySem PySem.Spec PyProof.Rows L2 G D L S C Sx Kx Ex Lt
open Fz hiding Fr
open C8 (pss_cut tCut)
open PySem.W (dataLt alike)
section
variable {P : Program} {w : World} {K : PySem.W.Frag} {mg : Str → Option Value} {base : Heap}
theorem gd_all {ds : List Dat} (h : (ds.all gdB) = true) : ∀ d ∈ ds, Gd d := fun d hd => gd_of (List.all_eq_true.mp h d hd)
theorem wd_one {d : Dat} (h : Wd d) : Wd (.lst [d]) ∧ Wd (.tup [d]) := by
  have q : Wd (.lst [d]) := by
    show (decide ([d].length ≤ 100000) && (wd d && true)) = true
    rw [show wd d = true from h]
    rfl
  exact ⟨q, q⟩
theorem gd_zeros : Gd (.lst (List.replicate 900 (.int 0))) := by
  refine ⟨(fine_lst (k := 1) (n := 1) (m := 900) (fun d hd => ?_) (by rw [List.length_replicate]; exact Nat.le_refl _)).mono (by decide) (by decide), by decide +kernel, by decide +kernel⟩
  rw [List.eq_of_mem_replicate hd]
  exact fine_of (by decide +kernel)
abbrev s_law_odd : Stmt := top 17
theorem sc_law_odd : FnScope ["bag", "deep", "k", "odd"] ["bag"] (defScope s_law_odd) := ⟨rfl, rfl, rfl, by decide +kernel, rfl, by decide +kernel, by decide +kernel⟩
theorem ok_odd {f : Addr} {fd : FuncData} (F : Fun K "_law_odd" "_law_odd" s_law_odd f fd) (T : Bl mg)
    (D_law_take : Def P w K mg base 2 "_law_take" ["bag", "many"] spTake) (D_law_one : Def P w K mg base 3 "_law_one" ["bag", "things"] spOne) :
    Fn P w K mg base CX0 4 f fd ["bag"] (spDraw K Gd) := by
  refine fn_calm F sc_law_odd (fun vs H Q E h => ?_) (fun cdv A outer s H vs Q E hc hr h => ?_)
  · obtain ⟨b, F, rfl, _⟩ := h
    rfl
  · obtain ⟨b, F0, rfl, fr, k⟩ := h
    refine ⟨_, (pss_cons (ps_set (i := 1) sc_law_odd.nd rfl (Or.inl rfl) (pe_def D_law_one hc (hr.mono (by decide)) (pa_cons (pv 0) (pa_cons (pe_lit (d := .lst [.lst [], .dct [] [], .tup [], .str "a"]) 9 (by rfl) (by rfl)) pa_nil))))
 (pss_cons (ps_for PassesOwn.never rfl (pi_range1 rfl T.rangeN (pa_cons pe_int pa_nil)) (pg_name (i := 2) sc_law_odd.nd rfl (Or.inl rfl))
  (pss_one (ps_set (i := 1) sc_law_odd.nd rfl (Or.inl rfl) (pe_ifExp (pt_cmpR op_eq (pe_def D_law_take hc (hr.mono (by decide)) (pa_cons (pv 0) (pa_cons pe_int pa_nil))) pe_int (nomark _)) (pe_lst (pa_cons (pv 1) pa_nil)) (pe_tup (pa_cons (pv 1) pa_nil))))))
 (pss_cons (ps_set (i := 3) sc_law_odd.nd rfl (Or.inl rfl) (pe_lit (d := .lst [.non, .bl true, .bl false, .int 0, .int 1, .int (-(1 : Int)), .int 64, .int 65, .int ((10 : Int) ^ (39 : Int).toNat), .int (-(((10 : Int) ^ (39 : Int).toNat) : Int)), .str "", .str "a", .str "A", .str "ninesigns", .str "?", .str "+given", .str "+kept"]) 9 (by rfl) (by rfl)))
 (pss_cons (ps_set (i := 3) sc_law_odd.nd rfl (Or.inl rfl) (pe_op op_cat (pv 3) (pe_lst (pa_mix 9 13 (ds := [.str "a b", .str "a\n", .lst [], .tup [], .dct [] [], .lst [.int 0], .tup [.int 0], .lst [.str "a"], .tup [.str "a"], .lst [.lst [.str "a"]], .tup [.tup [.str "a"]], .dct [.inr "a"] [.int 0], .dct [.inl 0] [.str "a"]]) (by rfl) (by rfl) (pa_cons (pv 1) pa_nil)))))
 (pss_cons (ps_set (i := 3) sc_law_odd.nd rfl (Or.inl rfl) (pe_op op_cat (pv 3) (pe_lit (d := .lst [.tup [.str "a", .int 0, .str "", .int 0, .bl false, .tup []], .tup [.str "a", .str "b"], .tup [.tup [.str "a", .str "b"]], .lst [.tup [.str "a", .str "b"]], .tup [.str "call", .str "a", .str "b", .str ""]]) 9 (by rfl) (by rfl))))
 (pss_one (ps_ret (pe_def D_law_one hc (hr.mono (by decide)) (pa_cons (pv 0) (pa_cons (pe_op op_cat (pv 3) (pe_lst (pa_mix 9 2 (ds := [.tup [.str "hand", .str "a", .str "b", .str "c"], .tup [.str "throw", .str "a"]]) (by rfl) (by rfl) (pa_cons (pe_op op_rep (pe_lit (d := .lst [.int 0]) 9 (by rfl) (by rfl)) pe_int) (pa_cons (pe_lit (d := .lst [.str "a", .str "a"]) 9 (by rfl) (by rfl)) (pa_cons (pe_lit (d := .tup [.str "a", .non]) 9 (by rfl) (by rfl)) pa_nil)))))) pa_nil)))))))))), ?_⟩
    refine ⟨_, rfl, fun v N H1 n1 r1 => ?_⟩
    obtain ⟨F1x, fr1, sF1, sN1⟩ := (Go.refl fr).lit' n1
    obtain ⟨t, xs, rfl, ht, hxs⟩ := Rep.mono sN1 _ r1
    have lx := hxs.length
    have tb : t ≠ b := fr1.ne ht
    refine ⟨b, t, xs, rfl, fr1.bag, fr1.same _ _ ht, tb, ?_, by rw [lx]; decide, fun dv H2 hdv sb2 bg2 => ?_⟩
    · intro z
      rw [z] at lx
      cases lx
    have fr2 := fr1.took sb2 bg2
    obtain ⟨d0, hd0, rd0⟩ := rep_mem hxs hdv
    have g0 : Fine 1 3 d0 ∧ Wd d0 ∧ top1 d0 ≤ 1 := by
      have : ([.lst [], .dct [] [], .tup [], .str "a"] : List Dat).all (fun d => fineB 1 3 d && wd d && decide (top1 d ≤ 1)) = true := by decide +kernel
      have q := List.all_eq_true.mp this d0 hd0
      simp only [Bool.and_eq_true, decide_eq_true_eq] at q
      exact ⟨fine_of q.1.1, q.1.2, q.2⟩
    refine ⟨5, rfl, by decide, by decide, ?_⟩
    refine for_range (n := 5) (fun i σ H' => ∃ (v : V) (o : Option V) (d : Dat) (F' : Hp), σ = [some (.ref b), some v, o, none] ∧ Go b F0 H F' H' ∧ Rep K F' v d ∧ Fine (i + 1) (3 + 5 * i) d ∧ Wd d ∧ top1 d ≤ 1)
      ⟨dv, none, d0, _, rfl, fr2, rd0, g0.1, g0.2.1, g0.2.2⟩ ?_ ?_
    · rintro i σ H3 hi ⟨v, o, d, F3, rfl, fr3, r3, f3, w3, t3⟩
      refine ⟨_, rfl, b, 2, rfl, fr3.bag, by decide, by decide, fun q H4 _ _ sb4 bg4 => ⟨rfl, _, rfl, ?_⟩⟩
      have fr4 := fr3.took sb4 bg4
      refine ite2 (fun e => ?_) (fun e => ?_)
      · refine ⟨_, rfl, by show 1 ≤ sizeLine; decide, fun p hp => ?_⟩
        obtain ⟨F5x, fr5, s5, at5⟩ := fr4.put' (o := .lst [v]) hp
        refine ⟨.ref p, _, .lst [d], _, rfl, fr5, ⟨p, [v], rfl, at5, v, [], rfl, Rep.mono s5 _ r3, rfl⟩, ?_, (wd_one w3).1, Nat.le_refl 1⟩
        have z := fine_lst (m := 1) (ds := [d]) (fun x hx => by rw [List.mem_singleton] at hx; subst hx; exact f3) (Nat.le_refl _)
        exact z.mono (by omega) (by omega)
      · refine ⟨_, rfl, by show 1 ≤ sizeLine; decide, fun p hp => ?_⟩
        obtain ⟨F5x, fr5, s5, at5⟩ := fr4.put' (o := .tup [v]) hp
        refine ⟨.ref p, _, .tup [d], _, rfl, fr5, ⟨p, [v], rfl, at5, v, [], rfl, Rep.mono s5 _ r3, rfl⟩, ?_, (wd_one w3).2, Nat.le_refl 1⟩
        have z := fine_tup (m := 1) (ds := [d]) (fun x hx => by rw [List.mem_singleton] at hx; subst hx; exact f3) (Nat.le_refl _)
        exact z.mono (by omega) (by omega)
    · rintro σ H3 ⟨v, o, d, F3, rfl, fr3, r3, f3, w3, t3⟩
      have gd : Gd d := ⟨f3.mono (by decide) (by decide), w3, Nat.le_trans t3 (by decide)⟩
      -- the first seventeen
      intro o1 N4 H4 n4 r4
      obtain ⟨F4x, fr4, sF4, sN4⟩ := fr3.lit' n4
      obtain ⟨t1, x1, rfl, h1, hx1⟩ := Rep.mono sN4 _ r4
      have l1 := hx1.length
      -- the next ones, deep among them
      refine ⟨_, rfl, fun vs N5 H5 n5 r5 => ?_⟩
      obtain ⟨F5x, fr5, sF5, sN5⟩ := fr4.lit' n5
      have r5' := RepAll.mono sN5 _ r5
      have l5 := r5.length
      refine ⟨_, rfl, by show (vs ++ [v]).length ≤ sizeLine; rw [List.length_append, l5]; exact (by decide : 13 + 1 ≤ sizeLine), fun p6 hp6 => ?_⟩
      obtain ⟨F6x, fr6, sF6, at6⟩ := fr5.put' (o := .lst (vs ++ [v])) hp6
      have h1' := (sF5.trans sF6) _ _ h1
      refine ⟨t1, p6, x1, vs ++ [v], rfl, rfl, fr6.same _ _ h1', upd_same, by rw [List.length_append, l5, l1]; exact (by decide : 17 + (13 + 1) ≤ sizeLine), fun p7 hp7 => ?_⟩
      obtain ⟨F7x, fr7, sF7, at7⟩ := fr6.put' (o := .lst (x1 ++ (vs ++ [v]))) hp7
      -- five more
      refine ⟨_, rfl, fun o8 N8 H8 n8 r8 => ?_⟩
      obtain ⟨F8x, fr8, sF8, sN8⟩ := fr7.lit' n8
      obtain ⟨t8, x8, rfl, h8, hx8⟩ := Rep.mono sN8 _ r8
      have l8 := hx8.length
      have h7' := sF8 p7 _ at7
      refine ⟨p7, t8, _, x8, rfl, rfl, fr8.same _ _ h7', fr8.same _ _ h8, by rw [List.length_append, List.length_append, l5, l1, l8]; exact (by decide : 17 + (13 + 1) + 5 ≤ sizeLine), fun p9 hp9 => ?_⟩
      obtain ⟨F9x, fr9, sF9, at9⟩ := fr8.put' (o := .lst (x1 ++ (vs ++ [v]) ++ x8)) hp9
      -- the last five
      refine ⟨_, rfl, _, rfl, fun ws Na Ha na ra => ?_⟩
      obtain ⟨Fax, fra, sFa, sNa⟩ := fr9.lit' na
      have la := ra.length
      refine fun vb Nb Hb nb rb => ?_
      obtain ⟨Fbx, frb, sFb, sNb⟩ := fra.lit' nb
      obtain ⟨tb', xb, rfl, hb, hxb⟩ := Rep.mono sNb _ rb
      have lb := hxb.length
      refine ⟨tb', 900, xb, rfl, rfl, frb.same _ _ hb, by decide, by decide, by rw [lb]; exact (by decide : 1 * (900 : Int).toNat ≤ sizeLine), fun pc hpc => ?_⟩
      obtain ⟨Fcx, frc, sFc, atc⟩ := frb.put' (o := .lst (List.replicate (900 : Int).toNat xb).flatten) hpc
      refine fun vd Nd Hd nd rd ve Ne He nne re => ?_
      obtain ⟨Fdx, frd, sFd, sNd⟩ := frc.lit' nd
      obtain ⟨Fex, fre, sFe, sNe⟩ := frd.lit' nne
      refine ⟨by show (ws ++ [V.ref pc, vd, ve]).length ≤ sizeLine; rw [List.length_append, la]; exact (by decide : 2 + 3 ≤ sizeLine), fun pf hpf => ?_⟩
      obtain ⟨Ffx, frf, sFf, atf⟩ := fre.put' (o := .lst (ws ++ [V.ref pc, vd, ve])) hpf
      have s9f := (((sFa.trans sFb).trans sFc).trans sFd).trans (sFe.trans sFf)
      have h9' := s9f p9 _ at9
      refine ⟨p9, pf, _, _, rfl, rfl, frf.same _ _ h9', upd_same, ?_, fun pg hpg => ?_⟩
      · rw [List.length_append, List.length_append, List.length_append, l5, l1, l8, List.length_append, la]
        exact (by decide : 17 + (13 + 1) + 5 + (2 + 3) ≤ sizeLine)
      obtain ⟨Fgx, frg, sFg, atg⟩ := frf.put' (o := .lst (x1 ++ (vs ++ [v]) ++ x8 ++ (ws ++ [V.ref pc, vd, ve]))) hpg
      have ng : pg ≠ b := frg.ne atg
      refine ⟨b, pg, _, rfl, frg.bag, upd_same, ng, ?_, ?_, fun vz Hz hvz sbz bgz => ?_⟩
      · intro z
        have := congrArg List.length z
        rw [List.length_append, List.length_append, List.length_append, l1] at this
        simp at this
      · rw [List.length_append, List.length_append, List.length_append, List.length_append, l5, l1, l8, List.length_append, la]
        exact (by decide : 17 + (13 + 1) + 5 + (2 + 3) < 1000000)
      have frz := frg.took sbz bgz
      -- whichever it was
      have sfg := sFf.trans sFg
      have s9g := s9f.trans sFg
      have s7g := (sF8.trans sF9).trans s9g
      have s5g := (sF6.trans sF7).trans s7g
      have all : ∃ ds : List Dat, RepAll K Fgx (x1 ++ (vs ++ [v]) ++ x8 ++ (ws ++ [V.ref pc, vd, ve])) ds ∧ ∀ d ∈ ds, Gd d := by
        have a1 := RepAll.mono (sF5.trans s5g) _ hx1
        have a2 := RepAll.mono s5g _ r5'
        have a3 : Rep K Fgx v d := Rep.mono ((sF4.trans sF5).trans s5g) _ r3
        have a4 := RepAll.mono (sF9.trans s9g) _ hx8
        have sa := (((sFb.trans sFc).trans sFd).trans sFe).trans sfg
        have a5 := RepAll.mono (sNa.trans sa) _ ra
        have a7 := Rep.mono (sNd.trans (sFe.trans sfg)) _ rd
        have a8 := Rep.mono (sNe.trans sfg) _ re
        have a6 : Rep K Fgx (.ref pc) (.lst (List.replicate 900 (.int 0))) := by
          refine ⟨pc, List.replicate 900 (.int 0), rfl, ((sFd.trans sFe).trans sfg) pc _ ?_, ?_⟩
          · rw [atc]
            have : xb = [V.int 0] := by
              obtain ⟨v0, r0, e0, q0, t0⟩ := hxb
              rw [e0, show v0 = V.int 0 from q0, show r0 = [] from t0]
            rw [this]
            have : ∀ n : Nat, (List.replicate n [V.int 0]).flatten = List.replicate n (V.int 0) := fun n => by
              induction n with
              | zero => rfl
              | succ n ih => rw [List.replicate_succ, List.flatten_cons, ih, List.replicate_succ]; rfl
            rw [this]
            rfl
          · have : ∀ n : Nat, RepAll K Fgx (List.replicate n (V.int 0)) (List.replicate n (.int 0)) := fun n => by
              induction n with
              | zero => exact rfl
              | succ n ih => exact ⟨_, _, rfl, rfl, ih⟩
            exact this 900
        refine ⟨_, RepAll.append (RepAll.append (RepAll.append a1 (RepAll.append a2 (.one a3))) a4) (RepAll.append a5 (show RepAll K Fgx [V.ref pc, vd, ve] [.lst (List.replicate 900 (.int 0)), .lst [.str "a", .str "a"], .tup [.str "a", .non]] from ⟨_, _, rfl, a6, _, _, rfl, a7, _, _, rfl, a8, rfl⟩)), ?_⟩
        intro x hx
        rcases List.mem_append.mp hx with hx | hx
        · rcases List.mem_append.mp hx with hx | hx
          · rcases List.mem_append.mp hx with hx | hx
            · exact gd_all (by decide +kernel) x hx
            · rcases List.mem_append.mp hx with hx | hx
              · exact gd_all (by decide +kernel) x hx
              · rw [List.mem_singleton] at hx
                subst hx
                exact gd
          · exact gd_all (by decide +kernel) x hx
        · rcases List.mem_append.mp hx with hx | hx
          · exact gd_all (by decide +kernel) x hx
          · rcases List.mem_cons.mp hx with rfl | hx
            · exact gd_zeros
            · exact gd_all (by decide +kernel) x hx
      obtain ⟨ds, rds, gds⟩ := all
      obtain ⟨dz, hdz, rdz⟩ := rep_mem rds hvz
      exact k vz dz _ Hz frz rdz (gds dz hdz)
end
end K

set_option Elab.async false
set_option linter.all false
set_option maxRecDepth 100000
set_option maxHeartbeats 4000000
/-! A thing of one's own beside the frozen part: written, and frozen at last. -/
namespace Fz
open PySem PySem.Spec PyProof.Rows L2 G D L S C Sx Kx Lt
section
variable {b D : Addr} {F H F1 H1 F2 H2 : Hp} {o o' : HO}
theorem Go.write (a : Go b F H F1 H1) (hD : H D = none) (fD : F1 D = none) (nD : D ≠ b) : Go b F H F1 (upd H1 D o) := by
  refine ⟨⟨fun y u e => ?_, a.out, ?_⟩, a.up, fun y u ny e => ?_, a.new⟩
  · have : y ≠ D := fun z => by rw [z, fD] at e; cases e
    rw [upd_ne this]
    exact a.same _ _ e
  · obtain ⟨l, q, ⟨c0, c1, c2, ms, q1, q2, q3⟩, hl⟩ := a.fr.cell
    have lD : l ≠ D := fun z => by
      rw [z, fD] at hl
      cases hl
    refine ⟨l, q, ⟨c0, c1, c2, ms, ?_, ?_, q3⟩, hl⟩
    · rw [upd_ne nD.symm]; exact q1
    · rw [upd_ne lD]; exact q2
  · rw [upd_ne (ne_of_none e hD)]
    exact a.but _ _ ny e
theorem Go.freeze (a : Go b F H F1 H1) (hD : H D = none) (fD : F1 D = none) (nD : D ≠ b) (at1 : H1 D = some o) : Go b F H (upd F1 D o) H1 := by
  refine ⟨⟨fun y u e => ?_, ?_, ?_⟩, a.up.trans (same_upd fD), a.but, fun y u e => ?_⟩
  · by_cases q : y = D
    · subst q
      rw [upd_same] at e
      rw [at1, ← e]
    · rw [upd_ne q] at e
      exact a.same _ _ e
  · rw [upd_ne nD.symm]
    exact a.out
  · obtain ⟨l, q, q1, q2⟩ := a.fr.cell
    exact ⟨l, q, q1, same_upd fD _ _ q2⟩
  · by_cases q : y = D
    · subst q
      exact .inr hD
    · rw [upd_ne q] at e
      exact a.new _ _ e
/-- what lies outside of the frozen part stays outside -/
theorem Go.outside (a : Go b F H F1 H1) (fD : F D = none) (at1 : H D = some o) : F1 D = none := by
  cases q : F1 D with
  | none => rfl
  | some u =>
    rcases a.new _ _ q with z | z
    · rw [fD] at z; cases z
    · rw [at1] at z; cases z
/-- a list of one's own -/
structure Own (K : PySem.W.Frag) (G : Dat → Prop) (b D : Addr) (F0 H0 F H : Hp) (xs : List V) (ds : List Dat) : Prop where
  go : Go b F0 H0 F H
  z0 : H0 D = none
  fD : F D = none
  nD : D ≠ b
  at1 : H D = some (.lst xs)
  hs : RepAll K F xs ds
  al : ∀ d ∈ ds, G d
variable {K : PySem.W.Frag} {G : Dat → Prop} {F0 H0 : Hp} {xs ys : List V} {ds es : List Dat}
theorem Own.set (a : Own K G b D F0 H0 F H xs ds) (h : RepAll K F ys es) (g : ∀ d ∈ es, G d) : Own K G b D F0 H0 F (upd H D (.lst ys)) ys es := by
  refine ⟨?_, a.z0, a.fD, a.nD, upd_same, h, g⟩
  exact a.go.write a.z0 a.fD a.nD
theorem Own.on (a : Own K G b D F0 H0 F H xs ds) (g : Go b F H F1 H1) : Own K G b D F0 H0 F1 H1 xs ds :=
  ⟨a.go.trans g, a.z0, g.outside a.fD a.at1, a.nD, g.but _ _ a.nD a.at1, RepAll.mono g.up _ a.hs, a.al⟩
theorem Own.end (a : Own K G b D F0 H0 F H xs ds) : Go b F0 H0 (upd F D (.lst xs)) H ∧ Rep K (upd F D (.lst xs)) (.ref D) (.lst ds) :=
  ⟨a.go.freeze a.z0 a.fD a.nD a.at1, D, xs, rfl, upd_same, RepAll.mono (same_upd a.fD) _ a.hs⟩
/-- a new list of one's own -/
theorem Go.own (a : Go b F0 H0 F H) (hD : H D = none) (h : RepAll K F ys es) (g : ∀ d ∈ es, G d) : Own K G b D F0 H0 F (upd H D (.lst ys)) ys es := by
  have z0 : H0 D = none := by
    cases q : H0 D with
    | none => rfl
    | some u =>
      by_cases e : D = b
      · obtain ⟨o, z⟩ := a.fr.some
        rw [e, z] at hD
        cases hD
      · rw [a.but _ _ e q] at hD
        cases hD
  have nD : D ≠ b := fun e => by
    obtain ⟨o, z⟩ := a.fr.some
    rw [e, z] at hD
    cases hD
  exact ⟨a.grow (same_upd hD), z0, a.same.free hD, nD, upd_same, h, g⟩
end
section
open C
variable {b : Addr} {F H1 : Hp} {K : PySem.W.Frag}
/-- a comprehension over a range, each turn of which draws a datum; the turn knows that the frozen part has grown -/
theorem lc_drawS {lo : Int} {n : Nat} {g : TG} {te : TE} {vs : List Nat} {σ : L2.St} {D : Addr} {Qd : Hp → Prop} (Gd : Dat → Prop) (hz : n < sizeLine) (hD : H1 D = none) (f : Fr F H1 b)
    (turn : ∀ (i : Nat) (F' H : Hp) (Kt : V → Hp → Prop), Fr F' H b → Same F F' →
      (∀ v d F2 H2, Go b F' H F2 H2 → Rep K F2 v d → Gd d → Kt v H2) →
      g (.int (lo + (i : Nat))) (wipe σ vs) H fun σ2 H2 => wipe σ2 vs = wipe σ vs ∧ te σ2 H2 Kt)
    (done : ∀ F' H xs ds, Go b F H1 F' H → H D = some (.lst xs) → F' D = none → D ≠ b → RepAll K F' xs ds → ds.length = n → (∀ d ∈ ds, Gd d) → Qd H) :
    ∃ W : Nat → Nat → Hp → Prop, (∃ m, W 0 m (upd H1 D (.lst []))) ∧ ∀ i m H, W i m H →
      ((Itr lo n).stop i H ∧ Qd H) ∨ ((Itr lo n).go i H ∧ ∃ Nx : Hp → Prop, (∀ H', Nx H' → ∃ m', m' < m ∧ W (i + 1) m' H') ∧ ∀ x H', (Itr lo n).yld i H x H' →
        g x (wipe σ vs) H' fun σ2 H2 => wipe σ2 vs = wipe σ vs ∧ tYes σ2 H2 fun b H3 =>
          if b = true then te σ2 H3 fun y H4 => ∃ acc, H4 D = some (.lst acc) ∧ acc.length < sizeLine ∧ Nx (upd H4 D (.lst (acc ++ [y]))) else Nx H3) := by
  have Db : D ≠ b := fun z => by
    obtain ⟨o, e⟩ := f.some
    rw [z, e] at hD
    cases hD
  refine lc_it walk_range (fun i H => ∃ F' xs ds, Go b F H1 F' H ∧ H D = some (.lst xs) ∧ F' D = none ∧ RepAll K F' xs ds ∧ ds.length = i ∧ ∀ d ∈ ds, Gd d)
    ⟨F, [], [], (Go.refl f).grow (same_upd hD), upd_same, f.same.free hD, rfl, rfl, fun _ h => nomatch h⟩ (fun _ _ _ _ => trivial) ?_ ?_
  · rintro i x H H' hi ⟨F', xs, ds, go, hd, fd, hr, hl, hg⟩ ⟨rfl, rfl⟩
    refine turn i F' H' _ go.fr go.up fun v d F2 H2 g2 r2 gd => ?_
    have hd2 := g2.but _ _ Db hd
    have fd2 : F2 D = none := by
      cases q : F2 D with
      | none => rfl
      | some o =>
        rcases g2.new _ _ q with z | z
        · rw [fd] at z; cases z
        · rw [hd] at z; cases z
    have g3 := go.trans g2
    have lx := hr.length
    refine ⟨xs, hd2, by rw [lx, hl]; omega, F2, xs ++ [v], ds ++ [d], ⟨⟨fun y o e => ?_, g3.out, ?_⟩, g3.up, fun y o ny e => ?_, g3.new⟩, upd_same, fd2, RepAll.append (RepAll.mono g2.up _ hr) (.one r2), ?_, ?_⟩
    · have : y ≠ D := fun z => by rw [z, fd2] at e; cases e
      rw [upd_ne this]
      exact g3.same _ _ e
    · obtain ⟨l, o, ⟨c0, c1, c2, ms, q1, q2, q3⟩, hl2⟩ := g3.fr.cell
      have lD : l ≠ D := fun z => by
        rw [z, fd2] at hl2
        cases hl2
      refine ⟨l, o, ⟨c0, c1, c2, ms, ?_, ?_, q3⟩, hl2⟩
      · rw [upd_ne Db.symm]; exact q1
      · rw [upd_ne lD]; exact q2
    · have : y ≠ D := ne_of_none e hD
      rw [upd_ne this]
      exact g3.but _ _ ny e
    · rw [List.length_append, hl]; rfl
    · intro e he
      rcases List.mem_append.mp he with he | he
      · exact hg e he
      · rw [List.mem_singleton] at he
        subst he
        exact gd
  · rintro H ⟨F', xs, ds, go, hd, fd, hr, hl, hg⟩
    exact done F' H xs ds go hd fd Db hr hl hg
end
end Fz

set_option Elab.async false
set_option linter.all false
set_option maxRecDepth 100000
set_option maxHeartbeats 8000000
namespace K
open PySem PySem.Spec PyProof.Rows L2 G D L S C Sx Kx Ex Lt
open Fz hiding Fr
open C8 (pss_cut tCut)
open PySem.W (dataLt alike AllAlike Sortable)
theorem set_perm {α : Type} {xs : List α} {i : Nat} {y : α} (h : i ≤ xs.length) : (xs.take i ++ [y] ++ xs.drop i).Perm (xs ++ [y]) := by
  have e : xs.take i ++ xs.drop i = xs := List.take_append_drop i xs
  have p : (xs.take i ++ [y] ++ xs.drop i).Perm (xs.take i ++ (xs.drop i ++ [y])) := by
    rw [List.append_assoc]
    exact (List.perm_append_comm).append_left _
  refine p.trans ?_
  rw [← List.append_assoc, e]
/-- the same things, in another order -/
def spMixed (K : PySem.W.Frag) : Sp := fun vs H Q _ => ∃ (b t : Addr) (F : Hp) (xs : List V) (ds : List Dat), vs = [.ref b, .ref t] ∧ Fz.Fr F H b ∧ F t = some (.lst xs) ∧ RepAll K F xs ds ∧ ds.length ≤ 1000 ∧
  ∀ v es F' H', Go b F H F' H' → Rep K F' v (.lst es) → es.Perm ds → Q v H'
section
variable {P : Program} {w : World} {K : PySem.W.Frag} {mg : Str → Option Value} {base : Heap}
abbrev s_law_mixed : Stmt := top 16
theorem sc_law_mixed : FnScope ["bag", "things", "found", "thing"] ["bag", "things"] (defScope s_law_mixed) := ⟨rfl, rfl, rfl, by decide +kernel, rfl, by decide +kernel, by decide +kernel⟩
theorem ok_mixed {f : Addr} {fd : FuncData} (F : Fun K "_law_mixed" "_law_mixed" s_law_mixed f fd) (T : Bl mg)
    (D_law_take : Def P w K mg base 2 "_law_take" ["bag", "many"] spTake) : Fn P w K mg base CX0 3 f fd ["bag", "things"] (spMixed K) := by
  refine fn_calm F sc_law_mixed (fun vs H Q E h => ?_) (fun cdv A outer s H vs Q E hc hr h => ?_)
  · obtain ⟨b, t, F, xs, ds, rfl, _⟩ := h
    rfl
  · obtain ⟨b, t, F0, xs, ds, rfl, fr, ht, hxs, hl, k⟩ := h
    have lx := hxs.length
    refine ⟨_, (pss_cons (ps_set (i := 2) sc_law_mixed.nd rfl (Or.inl rfl) (pe_lst pa_nil))
 (pss_cons (ps_for PassesOwn.never rfl (pi_list (pv 1)) (pg_name (i := 3) sc_law_mixed.nd rfl (Or.inl rfl))
  (pss_one (ps_expr (pe_bm PySem.F.plainAttrs_list PySem.F.slot_list_insert PySem.F.type_list_insert mt_insert (pv 2) (pa_cons (pe_def D_law_take hc (hr.mono (by decide)) (pa_cons (pv 0) (pa_cons (pe_op op_add (pe_callB call_len_seq (by rfl) T.lenN (by decide +kernel) (pa_cons (pv 2) pa_nil)) pe_int) pa_nil))) (pa_cons (pv 3) pa_nil))))))
 (pss_one (ps_ret (pv 2))))), ?_⟩
    refine ⟨by decide, fun D hD => ?_⟩
    have own0 := (Go.refl fr).own (G := fun _ => True) (ys := []) (es := []) (K := K) hD rfl (fun _ h => nomatch h)
    refine ⟨_, rfl, t, rfl, ⟨xs, SqL.of (own0.go.same _ _ ht)⟩, for_list (K := K) (a := t) (xs := xs) (fun i σ H' => ∃ (F' : Hp) (ys : List V) (es : List Dat) (o : Option V), σ = [some (.ref b), some (.ref t), some (.ref D), o] ∧ Own K (fun _ => True) b D F0 H F' H' ys es ∧ es.Perm (ds.take i) ∧ es.length = i)
      ⟨_, _, _, none, rfl, own0, by rw [List.take_zero], rfl⟩ (fun i σ H' _ h => ?_) ?_ ?_⟩
    · obtain ⟨F', ys, es, o, _, ow, _⟩ := h
      exact SqL.of (ow.go.same _ _ (ow.go.up _ _ ht))
    · rintro i x σ H' hx ⟨F', ys, es, o, rfl, ow, pe, le⟩
      have ly := ow.hs.length
      have li : i < xs.length := (List.getElem?_eq_some_iff.mp hx).1
      refine ⟨_, rfl, .inl ⟨rfl, ys, SqL.of ow.at1⟩, _, rfl, _, rfl, D, ys, rfl, .inl (SqL.of ow.at1), _, _, rfl, rfl, b, _, rfl, ow.go.bag, by omega, by omega, fun k0 H2 a0 a1 sb bt => ?_⟩
      have ow2 := ow.on ((Go.refl ow.go.fr).took sb bt)
      obtain ⟨d, hd, rd⟩ := hxs.get hx
      have rd2 := Rep.mono ow2.go.up _ rd
      refine ⟨_, rfl, D, ys, k0, x, rfl, rfl, ow2.at1, Nat.lt_of_le_of_lt (by omega : ys.length ≤ 1000) (by decide), a0, by omega, F', _, es.take k0.toNat ++ [d] ++ es.drop k0.toNat, _, rfl, ow2.set (RepAll.append (RepAll.append (RepAll.take _ ow2.hs) (.one rd2)) (RepAll.drop _ ow2.hs)) (fun _ _ => trivial), ?_, ?_⟩
      · refine (set_perm (by omega)).trans ?_
        rw [List.take_add_one, hd]
        exact pe.append_right _
      · rw [(set_perm (by omega)).length_eq, List.length_append, le]
        rfl
    · rintro σ H' ⟨F', ys, es, o, rfl, ow, pe, le⟩
      refine ⟨_, rfl, k _ es _ _ ow.end.1 ow.end.2 ?_⟩
      rw [lx, List.take_length] at pe
      exact pe
abbrev s_law_menu : Stmt := top 23
theorem sc_law_menu : FnScope ["bag", "some"] ["bag"] (defScope s_law_menu) := ⟨rfl, rfl, rfl, by decide +kernel, rfl, by decide +kernel, by decide +kernel⟩
def words : List Str := ["ann", "bob", "cy", "dee", "cup", "key", "x", "buy", "ask", "put", "get", "go", "a", "z", "eightlet", "b"]
/-- names, no two of them the same -/
structure Gnames (n : Nat) (d : Dat) : Prop where
  ex : ∃ ws : List Str, d = .lst (ws.map .str) ∧ ws.Nodup ∧ ws.length = n ∧ ∀ w ∈ ws, nameOk w = true
theorem perm_map_str {es : List Dat} {ws : List Str} (h : es.Perm (ws.map .str)) : ∃ us : List Str, es = us.map .str ∧ us.Perm ws := by
  refine ⟨es.map strOf, ?_, ?_⟩
  · rw [List.map_map]
    have : ∀ e ∈ es, (Dat.str ∘ strOf) e = e := by
      intro e he
      obtain ⟨w, _, rfl⟩ := List.mem_map.mp (h.mem_iff.mp he)
      rfl
    rw [List.map_congr_left this]
    simp
  · have := h.map strOf
    rw [List.map_map] at this
    have e : (strOf ∘ Dat.str) = id := rfl
    rw [e, List.map_id] at this
    exact this
theorem ok_menu {f : Addr} {fd : FuncData} (F : Fun K "_law_menu" "_law_menu" s_law_menu f fd) (T : Bl mg)
    (D_law_mixed : Def P w K mg base 3 "_law_mixed" ["bag", "things"] (spMixed K)) : Fn P w K mg base CX0 4 f fd ["bag"] (spDraw K (Gnames 16)) := by
  refine fn_calm F sc_law_menu (fun vs H Q E h => ?_) (fun cdv A outer s H vs Q E hc hr h => ?_)
  · obtain ⟨b, F, rfl, _⟩ := h
    rfl
  · obtain ⟨b, F0, rfl, fr, k⟩ := h
    refine ⟨_, (pss_cons (ps_set (i := 1) sc_law_menu.nd rfl (Or.inl rfl) (pe_lit (d := .lst [.str "ann", .str "bob", .str "cy", .str "dee", .str "cup", .str "key", .str "x", .str "buy", .str "ask", .str "put", .str "get", .str "go", .str "a", .str "z", .str "eightlet", .str "b"]) 9 (by rfl) (by rfl)))
 (pss_one (ps_ret (pe_def D_law_mixed hc (hr.mono (by decide)) (pa_cons (pv 0) (pa_cons (pv 1) pa_nil)))))), ?_⟩
    intro v1 N1 H1 n1 r1
    obtain ⟨F1, g1, s1, t1⟩ := (Go.refl fr).lit' n1
    obtain ⟨a1, x1, rfl, h1, hx1⟩ := Rep.mono t1 _ r1
    refine ⟨_, rfl, _, rfl, b, a1, F1, x1, _, rfl, g1.fr, h1, hx1, by decide, fun v es F' H' g2 r2 pe => ?_⟩
    obtain ⟨us, rfl, pu⟩ := perm_map_str (ws := words) pe
    refine k v _ F' H' (g1.trans g2) r2 ⟨us, rfl, pu.nodup_iff.mpr (by decide +kernel), pu.length_eq, fun w hw => ?_⟩
    exact List.all_eq_true.mp (by decide +kernel : words.all nameOk = true) w (pu.mem_iff.mp hw)
end
end K

set_option Elab.async false
set_option linter.all false
set_option maxRecDepth 100000
set_option maxHeartbeats 4000000
namespace Kx
open PySem PySem.Spec PyProof.Rows L2 G D L S C Sx
section
variable {X : Cx} {K : PySem.W.Frag} {e : Expr} {f : Str} {pos : Pos} {ta : TE}
theorem op_in_seqK (hK : X.K = K) : OpR X (compareOp .In) (rIn K false) := hK ▸ op_in_seq
theorem op_notIn_seqK (hK : X.K = K) : OpR X (compareOp .NotIn) (rIn K true) := hK ▸ op_notIn_seq
theorem pe_fldK (hK : X.K = K) (he : PE X e ta) (hb : attributeBase e f X.env (eval e X.env) = eval e X.env) : PE X (.Attribute e f pos) (tFld K ta f) := hK ▸ pe_fld he hb
end
theorem eqV_str (a b : Str) : eqV (.str a) (.str b) = decide (a = b) := by
  by_cases h : a = b
  · subst h
    simp [eqV]
  · simp [eqV, h]
theorem inV_str (x : Str) (xs : List Str) : inV (.str x) (xs.map .str) = decide (x ∈ xs) := by
  unfold inV
  induction xs with
  | nil => simp
  | cons y ys ih =>
    rw [List.map_cons, List.any_cons, ih, eqV_str]
    by_cases h : y = x
    · subst h; simp
    · have : ¬ x = y := fun z => h z.symm
      simp [h, this]
end Kx

set_option Elab.async false
set_option linter.all false
set_option maxRecDepth 100000
set_option maxHeartbeats 8000000
namespace K
open PySem PySem.Spec PyProof.Rows L2 G D L S C Sx Kx Ex Lt
open Fz hiding Fr
open C8 (pss_cut tCut)
open PySem.W (dataLt alike AllAlike Sortable)
/-- a rule of a gate -/
structure Rl where
  door : Str
  state : Int
  kind : Str
  later : Int
  keeps : Bool
  told : List Str
def Rl.dat (r : Rl) : Dat := .tup [.str r.door, .int r.state, .str r.kind, .int r.later, .bl r.keeps, .tup (r.told.map .str)]
/-- it is one of a gate with n states, doors ds, closet cs -/
structure Rl.Ok (n : Int) (ds cs : List Str) (r : Rl) : Prop where
  door : r.door ∈ ds
  s0 : 0 ≤ r.state
  s1 : r.state < n
  kind : r.kind ∈ cs ++ (["", "?"] : List Str)
  l0 : 0 ≤ r.later
  l1 : r.later < n
  told0 : r.kind = "" → r.keeps = false ∧ ∀ w ∈ r.told, w ∈ cs ++ (["+kept"] : List Str)
  told1 : ∀ w ∈ r.told, w ∈ cs ++ (["+kept", "+given"] : List Str)
  len : r.told.length ≤ 1000
/-- a number that is at least 0 and below another -/
def spBelow : Sp := fun vs H Q _ => ∃ (i n : Int), vs = [.int i, .int n] ∧ 0 ≤ i ∧ i < n ∧ ∀ H', Same H H' → Q (.bl true) H'
/-- the class and its fields -/
structure GCls (K : PySem.W.Frag) (C : Addr) : Prop where
  cl : Cls K C
  n1 : NoAttr K C "_states"
  n2 : NoAttr K C "_doors"
  n3 : NoAttr K C "_closet"
  n4 : NoAttr K C "_rules"
/-- the first three fields of a gate -/
structure Self3 (C : Addr) (H : Hp) (x : Addr) (n : Int) (ds cs : List Str) : Prop where
  ex : ∃ dx fs d c, H x = some (.ins C dx fs) ∧ fs.lookup ("_states" : Str) = some (.int n) ∧ fs.lookup ("_doors" : Str) = some (.ref d) ∧ fs.lookup ("_closet" : Str) = some (.ref c) ∧
    H d = some (.lst (ds.map .str)) ∧ H c = some (.lst (cs.map .str)) ∧ ds.length ≤ 1000 ∧ cs.length ≤ 1000
theorem Self3.mono {C x : Addr} {H H' : Hp} {n : Int} {ds cs : List Str} (h : Self3 C H x n ds cs) (s : Same H H') : Self3 C H' x n ds cs := by
  obtain ⟨dx, fs, d, c, h1, h2, h3, h4, h5, h6, h7, h8⟩ := h.ex
  exact ⟨dx, fs, d, c, s _ _ h1, h2, h3, h4, s _ _ h5, s _ _ h6, h7, h8⟩
def spIsRule (K : PySem.W.Frag) (C : Addr) : Sp := fun vs H Q _ => ∃ (x : Addr) (v : V) (n : Int) (ds cs : List Str) (r : Rl), vs = [.ref x, v] ∧ Self3 C H x n ds cs ∧ Rep K H v r.dat ∧ r.Ok n ds cs ∧
  ∀ H', Same H H' → Q (.bl true) H'
section
variable {P : Program} {w : World} {K : PySem.W.Frag} {mg : Str → Option Value} {base : Heap}
abbrev s_is_below : Stmt := top 6
theorem sc_is_below : FnScope ["thing", "many"] ["thing", "many"] (defScope s_is_below) := ⟨rfl, rfl, rfl, by decide +kernel, rfl, by decide +kernel, by decide +kernel⟩
theorem ok_below {f : Addr} {fd : FuncData} (F : Fun K "is_below" "is_below" s_is_below f fd) (T : Bl mg)
    (D_is_integer : Def P w K mg base 2 "is_integer" ["thing"] (spB K (fun _ => True) isWhole)) : Fn P w K mg base CX0 3 f fd ["thing", "many"] spBelow := by
  refine fn_calm F sc_is_below (fun vs H Q E h => ?_) (fun cdv A outer s H vs Q E hc hr h => ?_)
  · obtain ⟨i, n, rfl, _⟩ := h
    rfl
  · obtain ⟨i, n, rfl, h0, h1, k⟩ := h
    refine ⟨_, (pss_one (ps_ret (pe_and (pe_def D_is_integer hc (hr.mono (by decide)) (pa_cons (pv 0) pa_nil)) (pe_one (pe_chain op_le op_lt pe_int (pv 0) (pv 1)))))), ?_⟩
    refine ⟨_, rfl, .int i, .int i, rfl, rfl, trivial, fun H1 s1 => ⟨_, rfl, ?_⟩⟩
    refine iteT ?_
    refine ⟨_, rfl, _, _, rfl, rfl, _, rfl, ?_⟩
    rw [decide_eq_true h0]
    refine iteT ?_
    refine ⟨_, rfl, _, _, rfl, rfl, ?_⟩
    show Q (.bl (decide (i < n))) H1
    rw [decide_eq_true h1]
    exact k H1 s1
abbrev s_Gate__is_rule : Stmt := inClass (top 10) 13
theorem sc_Gate__is_rule : FnScope ["self", "thing", "door", "state", "kind", "later", "keeps", "told", "word"] ["self", "thing"] (defScope s_Gate__is_rule) := ⟨rfl, rfl, rfl, by decide +kernel, rfl, by decide +kernel, by decide +kernel⟩
theorem ok_is_rule {f C : Addr} {fd : FuncData} (F : Fun K "_is_rule" "Gate._is_rule" s_Gate__is_rule f fd) (T : Bl mg) (gc : GCls K C)
    (D_is_below : Def P w K mg base 3 "is_below" ["thing", "many"] spBelow) : Fn P w K mg base CX0 4 f fd ["self", "thing"] (spIsRule K C) := by
  refine fn_calm F sc_Gate__is_rule (fun vs H Q E h => ?_) (fun cdv A outer s H vs Q E hc hr h => ?_)
  · obtain ⟨x, v, n, ds, cs, r, rfl, _⟩ := h
    rfl
  · obtain ⟨x, v, n, ds, cs, r, rfl, hx, hv, ok, k⟩ := h
    refine ⟨_, (pss_cons (ps_if (PW.pt (pw_or (pt_not (pt_val (pe_callB call_isi (by rfl) T.isinstanceN (by decide +kernel) (pa_cons (pv 1) (pa_cons (pe_bltn (v := .ty "tuple") (by rfl) T.tupleN (by decide +kernel) rfl) pa_nil))))) (pw_or1 (pt_cmpR op_ne (pe_callB call_len_seq (by rfl) T.lenN (by decide +kernel) (pa_cons (pv 1) pa_nil)) pe_int (nomark _)))))
  (pss_one (ps_ret pe_bl))
  pss_nil)
 (pss_cons (ps_asg (pv 1) (pg_tup (by rfl) (pgs_cons (pg_name (i := 2) sc_Gate__is_rule.nd rfl (Or.inl rfl)) (pgs_cons (pg_name (i := 3) sc_Gate__is_rule.nd rfl (Or.inl rfl)) (pgs_cons (pg_name (i := 4) sc_Gate__is_rule.nd rfl (Or.inl rfl)) (pgs_cons (pg_name (i := 5) sc_Gate__is_rule.nd rfl (Or.inl rfl)) (pgs_cons (pg_name (i := 6) sc_Gate__is_rule.nd rfl (Or.inl rfl)) (pgs_cons (pg_name (i := 7) sc_Gate__is_rule.nd rfl (Or.inl rfl)) pgs_nil))))))))
 (pss_cons (ps_if (PW.pt (pw_or (pt_cmpR op_notIn_seq (pv 2) (pe_fld (pv 0) rfl) (by rfl)) (pw_or (pt_not (pt_val (pe_def D_is_below hc (hr.mono (by decide)) (pa_cons (pv 3) (pa_cons (pe_fld (pv 0) rfl) pa_nil))))) (pw_or1 (pt_not (pt_val (pe_def D_is_below hc (hr.mono (by decide)) (pa_cons (pv 5) (pa_cons (pe_fld (pv 0) rfl) pa_nil)))))))))
  (pss_one (ps_ret pe_bl))
  pss_nil)
 (pss_cons (ps_if (PW.pt (pw_or (pt_cmpR op_notIn_seq (pv 4) (pe_op op_cat (pe_fld (pv 0) rfl) (pe_lst (pa_cons pe_str (pa_cons pe_str pa_nil)))) (by rfl)) (pw_or (pt_not (pt_val (pe_callB call_isi (by rfl) T.isinstanceN (by decide +kernel) (pa_cons (pv 6) (pa_cons (pe_bltn (v := .ty "bool") (by rfl) T.boolN (by decide +kernel) rfl) pa_nil))))) (pw_or1 (pt_not (pt_val (pe_callB call_isi (by rfl) T.isinstanceN (by decide +kernel) (pa_cons (pv 7) (pa_cons (pe_bltn (v := .ty "tuple") (by rfl) T.tupleN (by decide +kernel) rfl) pa_nil)))))))))
  (pss_one (ps_ret pe_bl))
  pss_nil)
 (pss_cons (ps_if (pt_cmpR op_eq (pv 4) pe_str (nomark _))
  (pss_one (ps_ret (pe_and (pe_not (pv 6)) (pe_one (pe_callB (cr_all rfl) (by rfl) T.allN (by decide +kernel) (pa_cons (pe_lc (own := [("word", 8)]) (g := gName 8) (tt := tYes) rfl sc_Gate__is_rule.nd (pi_tup (pv 7)) (blkOk_by (N := ["self", "thing", "door", "state", "kind", "later", "keeps", "told", "word"]) (sc := defScope s_Gate__is_rule) (by decide +kernel)) (fun _ _ _ _ _ => (pg_name (i := 8) sc_Gate__is_rule.nd rfl (Or.inl rfl))) (fun _ _ _ _ _ => pts_nil) (fun _ _ _ _ _ => (pe_cmpR (op_in_seqK (K := K) rfl) (pv 8) (pe_op op_cat (pe_fldK (K := K) rfl (pv 0) rfl) (pe_lst (pa_cons pe_str pa_nil))) (by rfl)))) pa_nil))))))
  pss_nil)
 (pss_one (ps_ret (pe_callB (cr_all rfl) (by rfl) T.allN (by decide +kernel) (pa_cons (pe_lc (own := [("word", 8)]) (g := gName 8) (tt := tYes) rfl sc_Gate__is_rule.nd (pi_tup (pv 7)) (blkOk_by (N := ["self", "thing", "door", "state", "kind", "later", "keeps", "told", "word"]) (sc := defScope s_Gate__is_rule) (by decide +kernel)) (fun _ _ _ _ _ => (pg_name (i := 8) sc_Gate__is_rule.nd rfl (Or.inl rfl))) (fun _ _ _ _ _ => pts_nil) (fun _ _ _ _ _ => (pe_cmpR (op_in_seqK (K := K) rfl) (pv 8) (pe_op op_cat (pe_fldK (K := K) rfl (pv 0) rfl) (pe_lst (pa_cons pe_str (pa_cons pe_str pa_nil)))) (by rfl)))) pa_nil))))))))), ?_⟩
    obtain ⟨dx, fs, d, c, h1, h2, h3, h4, h5, h6, h7, h8⟩ := hx.ex
    refine ⟨_, rfl, _, _, _, _, _, rfl, .ty "tuple", hv.ty, kit_tup hv, _, rfl, ?_⟩
    refine iteF ?_
    obtain ⟨p, xs, rfl, hp, v1, _, rfl, e1, v2, _, rfl, e2, v3, _, rfl, e3, v4, _, rfl, e4, v5, _, rfl, e5, v6, _, rfl, e6, rfl⟩ := hv
    obtain rfl : v1 = .str r.door := e1
    obtain rfl : v2 = .int r.state := e2
    obtain rfl : v3 = .str r.kind := e3
    obtain rfl : v4 = .int r.later := e4
    obtain rfl : v5 = .bl r.keeps := e5
    obtain ⟨q, ws, rfl, hq, ht⟩ := e6
    obtain rfl := RepAll.strs ht
    refine ⟨_, rfl, p, _, rfl, .inr (SqT.of hp), rfl, _, rfl, ?_⟩
    refine iteF ?_
    refine ⟨_, rfl, p, _, rfl, SqT.of hp, rfl, _, _, rfl, _, _, rfl, _, _, rfl, _, _, rfl, _, _, rfl, _, _, rfl, rfl, ?_⟩
    -- the door, both states
    refine ⟨_, rfl, _, rfl, x, C, dx, _, _, rfl, h1, gc.cl, gc.n2, h3, d, _, rfl, .inl (SqL.of h5), rfl, flat_strs _, _, rfl, ?_⟩
    rw [inV_str, decide_eq_true ok.door]
    refine iteF ?_
    refine ⟨_, rfl, _, rfl, x, C, dx, _, _, rfl, h1, gc.cl, gc.n1, h2, _, _, rfl, ok.s0, ok.s1, fun H1 s1 => ⟨_, rfl, ?_⟩⟩
    refine iteF ?_
    refine ⟨_, rfl, _, rfl, x, C, dx, _, _, rfl, s1 _ _ h1, gc.cl, gc.n1, h2, _, _, rfl, ok.l0, ok.l1, fun H2 s2 => ⟨_, rfl, ?_⟩⟩
    refine iteF ?_
    have s12 := s1.trans s2
    -- the kind
    refine ⟨_, rfl, _, rfl, x, C, dx, _, _, rfl, s12 _ _ h1, gc.cl, gc.n3, h4, by decide, fun p3 hp3 => ?_⟩
    have s3 := s12.trans (same_upd (o := .lst [V.str "", V.str "?"]) hp3)
    refine ⟨c, p3, _, _, rfl, rfl, s3 _ _ h6, upd_same, ?_, fun p4 hp4 => ?_⟩
    · rw [List.length_map]
      exact Nat.le_trans (Nat.add_le_add_right h8 2) (by decide)
    have s4 := s3.trans (same_upd (o := .lst (cs.map .str ++ [V.str "", V.str "?"])) hp4)
    have e4 : (cs.map V.str ++ [V.str "", V.str "?"]) = (cs ++ (["", "?"] : List Str)).map V.str := by rw [List.map_append]; rfl
    refine ⟨p4, _, rfl, .inl (SqL.of upd_same), rfl, by rw [e4]; exact flat_strs _, _, rfl, ?_⟩
    rw [e4, inV_str, decide_eq_true ok.kind]
    refine iteF ?_
    rw [e4] at s4
    generalize upd (upd H2 p3 (.lst [V.str "", V.str "?"])) p4 (.lst ((cs ++ (["", "?"] : List Str)).map V.str)) = H4 at s4
    have rk : Rep K H4 (.bl r.keeps) (.bl r.keeps) := rfl
    have rt : Rep K H4 (.ref q) (.tup (r.told.map .str)) := ⟨q, _, rfl, s4 _ _ hq, RepAll.of_strs _⟩
    refine ⟨_, rfl, _, _, _, _, _, rfl, .ty "bool", rk.ty, kit_bl rk, _, rfl, ?_⟩
    refine iteF ?_
    refine ⟨_, rfl, _, _, _, _, _, rfl, .ty "tuple", rt.ty, kit_tup rt, _, rfl, ?_⟩
    refine iteF ?_
    have lt : (r.told.map V.str).length < sizeLine := by
      rw [List.length_map]
      exact Nat.lt_of_le_of_lt ok.len (by decide)
    refine ⟨_, rfl, rfl, _, rfl, ?_⟩
    refine ite2 (fun ek => ?_) (fun ek => ?_)
    · have e0 : r.kind = "" := V.str.inj (of_decide_eq_true ek)
      obtain ⟨k0, t0⟩ := ok.told0 e0
      refine ⟨_, rfl, _, rfl, _, rfl, ?_⟩
      rw [k0]
      refine iteT ?_
      refine ⟨_, rfl, q, rfl, ⟨_, SqT.of (s4 _ _ hq)⟩, fun D hD => lc_map (walk_tup (xs := r.told.map .str)) r.told (fun w => .bl true) (by rw [List.length_map]) lt hD (fun H' s => SqT.of (s _ _ (s4 _ _ hq))) ?_ ?_⟩
      · rintro i w0 y J1 J2 Kt hw hs ⟨rfl, hy⟩ kt
        have hy' : y = V.str w0 := by
          rw [List.getElem?_map, hw] at hy
          exact (Option.some.inj hy).symm
        subst hy'
        have u := s4.trans hs
        refine ⟨rfl, _, rfl, _, rfl, x, C, dx, _, _, rfl, u _ _ h1, gc.cl, gc.n3, h4, by decide, fun p5 hp5 => ?_⟩
        have u5 := u.trans (same_upd (o := .lst [V.str "+kept"]) hp5)
        refine ⟨c, p5, _, _, rfl, rfl, u5 _ _ h6, upd_same, ?_, fun p6 hp6 => ?_⟩
        · rw [List.length_map]
          exact Nat.le_trans (Nat.add_le_add_right h8 1) (by decide)
        have e6 : (cs.map V.str ++ [V.str "+kept"]) = (cs ++ (["+kept"] : List Str)).map V.str := by rw [List.map_append]; rfl
        refine ⟨p6, _, rfl, .inl (SqL.of upd_same), rfl, by rw [e6]; exact flat_strs _, ?_⟩
        have v6 := (same_upd (o := .lst [V.str "+kept"]) hp5).trans (same_upd (o := .lst (cs.map V.str ++ [V.str "+kept"])) hp6)
        show Kt (.bl (inV (.str w0) (cs.map V.str ++ [V.str "+kept"]))) _
        rw [show inV (.str w0) (cs.map V.str ++ [V.str "+kept"]) = true by rw [e6, inV_str, decide_eq_true (t0 _ (List.mem_of_getElem? hw))]]
        exact kt _ v6
      · intro J1 hs hd
        refine ⟨D, r.told.map (fun _ => true), rfl, SqL.of (by rw [List.map_map]; exact hd), ?_⟩
        rw [show ((r.told.map fun _ => true).all id) = true by simp]
        exact k J1 (s4.trans hs)
    · refine ⟨_, rfl, q, rfl, ⟨_, SqT.of (s4 _ _ hq)⟩, fun D hD => lc_map (walk_tup (xs := r.told.map .str)) r.told (fun w => .bl true) (by rw [List.length_map]) lt hD (fun H' s => SqT.of (s _ _ (s4 _ _ hq))) ?_ ?_⟩
      · rintro i w0 y J1 J2 Kt hw hs ⟨rfl, hy⟩ kt
        have hy' : y = V.str w0 := by
          rw [List.getElem?_map, hw] at hy
          exact (Option.some.inj hy).symm
        subst hy'
        have u := s4.trans hs
        refine ⟨rfl, _, rfl, _, rfl, x, C, dx, _, _, rfl, u _ _ h1, gc.cl, gc.n3, h4, by decide, fun p5 hp5 => ?_⟩
        have u5 := u.trans (same_upd (o := .lst [V.str "+kept", V.str "+given"]) hp5)
        refine ⟨c, p5, _, _, rfl, rfl, u5 _ _ h6, upd_same, ?_, fun p6 hp6 => ?_⟩
        · rw [List.length_map]
          exact Nat.le_trans (Nat.add_le_add_right h8 2) (by decide)
        have e6 : (cs.map V.str ++ [V.str "+kept", V.str "+given"]) = (cs ++ (["+kept", "+given"] : List Str)).map V.str := by rw [List.map_append]; rfl
        refine ⟨p6, _, rfl, .inl (SqL.of upd_same), rfl, by rw [e6]; exact flat_strs _, ?_⟩
        have v6 := (same_upd (o := .lst [V.str "+kept", V.str "+given"]) hp5).trans (same_upd (o := .lst (cs.map V.str ++ [V.str "+kept", V.str "+given"])) hp6)
        show Kt (.bl (inV (.str w0) (cs.map V.str ++ [V.str "+kept", V.str "+given"]))) _
        rw [show inV (.str w0) (cs.map V.str ++ [V.str "+kept", V.str "+given"]) = true by rw [e6, inV_str, decide_eq_true (ok.told1 _ (List.mem_of_getElem? hw))]]
        exact kt _ v6
      · intro J1 hs hd
        refine ⟨D, r.told.map (fun _ => true), rfl, SqL.of (by rw [List.map_map]; exact hd), ?_⟩
        rw [show ((r.told.map fun _ => true).all id) = true by simp]
        exact k J1 (s4.trans hs)
end
end K

set_option Elab.async false
set_option linter.all false
set_option maxRecDepth 100000
set_option maxHeartbeats 4000000
/-! sorted(..) of a tuple. -/
namespace S
open PySem PySem.Spec PyProof.Rows L2 G D L
open PySem.W
section
variable {prog : Program} {w : World} {A : Around} {E : Value → Shared → Prop} {s : Shared}
theorem collect_tup {l : Addr} {vs : List Value} {o : Obj} {n : Nat} {Q : List Value → Shared → Prop} (ho : s.heap.get? l = some o) (hc : o.cls = .type "tuple") (hd : o.data = .seq vs.toArray n)
    (h : Q vs { s with heap := (s.heap.push (seqObj "list" #[] 0)).update s.heap.objs.size (Obj.mapSeq (· ++ vs.toArray)) }) (hz : vs.length ≤ sizeLine) :
    wpAny (model prog w) A (collect (.ref l)) Q E s := by
  unfold collect
  refine wpAny_bind (wpAny_runValue (codeAny_builtin entry_proto_collect' ?_))
  show wpAny _ _ (do again (.builtin "list.__iadd__" ⟨[← newList [], .ref l], []⟩)) _ _ s
  refine wpAny_bind (wpAny_newList (wpAny_pure ⟨Code.quiet_builtin _ (by decide +kernel), codeAny_builtin entry_list_iadd' ?_⟩))
  show wpAny _ _ (Builtin.List.listExtendWith (.ref s.heap.objs.size) (.ref l) (.ref s.heap.objs.size)) _ _ { s with heap := s.heap.push (seqObj "list" #[] 0) }
  unfold Builtin.List.listExtendWith
  have ho' : (s.heap.push (seqObj "list" #[] 0)).get? l = some o := Heap.get?_push_of_some _ ho
  refine wpAny_bind (wpAny_typeOf (T := "tuple") ⟨o, ho', hc⟩ ?_)
  have ht : (Value.type "tuple" == Value.type "tuple") = true := by rfl
  rw [if_pos (by rw [ht]; simp)]
  refine wpAny_bind (listItems_at ho' hd ?_)
  refine wpAny_bind (listItems_at (xs := #[]) (n := 0) (Heap.get?_push_size _ rfl) rfl ?_)
  rw [if_neg (by simp)]
  refine wpAny_bind (listUpdate_at (xs := #[]) (n := 0) (Heap.get?_push_size _ rfl) rfl ?_ (Nat.zero_le _) (by
    rw [Array.size_append, List.size_toArray]
    exact Nat.le_trans (Nat.le_of_eq (Nat.zero_add _)) (Nat.le_trans hz (Nat.le_succ _))))
  refine wpAny_pure ?_
  show wpAny (model prog w) A (do
      let oo ← load s.heap.objs.size
      match oo.data with
      | .seq its _ => pure its.toList
      | _ => unsupported "internal:collect") Q E { s with heap := (s.heap.push (seqObj "list" #[] 0)).update s.heap.objs.size (Obj.mapSeq (· ++ vs.toArray)) }
  refine wpAny_bind (wpAny_load (get?_update_seq (Heap.get?_push_size _ rfl) _) ?_)
  show wpAny _ _ (pure ((#[] : Array Value) ++ vs.toArray).toList) Q E _
  have e : ((#[] : Array Value) ++ vs.toArray).toList = vs := by simp
  rw [e]
  exact wpAny_pure h
variable {κ : Type} {R : Value → D.Dat → Prop}
theorem sorted_tup_of {l : Addr} {vs : List Value} {o : Obj} {n : Nat} {Q : Value → Shared → Prop} (ho : s.heap.get? l = some o) (hc : o.cls = .type "tuple") (hd : o.data = .seq vs.toArray n) (hL : vs.length ≤ sizeLine)
    (body : ∀ E' : Value → Shared → Prop, wpAny (model prog w) A.in1.in1 (Builtin.«list.sort» ⟨[.ref (s.heap.objs.size + 1)], []⟩)
      (fun f s' => f = .done (.ret .none) ∧ Q (.ref (s.heap.objs.size + 1)) s') E' { s with heap := copyHeap s.heap vs }) :
    wpAny (model prog w) A (call (.builtin "sorted") [.ref l] []) Q E s := by
  refine call_function_entry_kw kind_sorted plain_sorted entry_sorted (args_sorted1 _) ?_
  unfold Builtin.«sorted»
  refine wpAny_bind (m := checkCount "sorted" 1 1 _) (wpAny_pure ?_)
  refine wpAny_bind (collect_tup ho hc hd ?_ hL)
  refine wpAny_bind (wpAny_newList ?_ hL)
  have hsz : ((s.heap.push (seqObj "list" #[] 0)).update s.heap.objs.size (Obj.mapSeq (· ++ vs.toArray))).objs.size = s.heap.objs.size + 1 := by
    rw [Heap.size_update, size_push']
  show wpAny _ _ _ _ _ { s with heap := copyHeap s.heap vs }
  rw [hsz]
  refine wpAny_bind (wpAny_holding (wpAny_call_entry_kw PySem.F.slot_list_sort ⟨_, copyHeap_at s.heap vs, rfl⟩ PySem.F.entry_list_sort ?body (args_list_sort _)))
  case body =>
    show wpAny (model prog w) A.in1.in1 (Builtin.«list.sort» ⟨[.ref (s.heap.objs.size + 1)], []⟩) _ _ _
    refine wpAny_mono (body _) (fun f s' hf => ?_) fun _ _ e => e
    obtain ⟨rfl, hq⟩ := hf
    exact ⟨_, rfl, wpAny_pure ⟨_, rfl, hq⟩⟩
theorem sorted_tup_data {l : Addr} {vs : List Value} {ds : List D.Dat} {o : Obj} {n : Nat} {Q : Value → Shared → Prop} (ho : s.heap.get? l = some o) (hc : o.cls = .type "tuple") (hd : o.data = .seq vs.toArray n)
    (e : EachIs R vs ds) (er : EachIs (fun v b => ∃ as, Reads s.heap v (D.Dat.py b) as) vs ds) (hal : AllAlike (ds.map D.Dat.py)) (hk : Sortable (ds.map D.Dat.py)) (hL : ds.length ≤ sizeLine)
    (hu : ∀ b, b ∈ ds → A.units + 2 + (D.Dat.py b).depth < cLine)
    (h : ∀ out, out.length = ds.length → EachIs R out (ds.mergeSort (dataLe false D.Dat.py)) → Q (.ref (s.heap.objs.size + 1)) { s with heap := sortedAll s.heap vs (List.toArray out) }) :
    wpAny (model prog w) A (call (.builtin "sorted") [.ref l]) Q E s := by
  have er' : EachIs (fun v b => ∃ as, Reads (sortingHeap (copyHeap s.heap vs) (s.heap.objs.size + 1) vs) v (D.Dat.py b) as) vs ds := er.mono fun _ _ ⟨as, r⟩ => ⟨as, PyProof.Rows.Reads.keeps (fun _ _ => sorting_copy_old) r⟩
  have hL' : vs.length ≤ sizeLine := by rw [e.length]; exact hL
  have S := SortsAt.data (prog := prog) (w := w) (A := A.in1.in1) (s := { s with heap := sortingHeap (copyHeap s.heap vs) (s.heap.objs.size + 1) vs })
    (each_map (R := fun v d => ∃ as, Reads (sortingHeap (copyHeap s.heap vs) (s.heap.objs.size + 1) vs) v d as) D.Dat.py er') hal hk (bound_map hu)
  refine sorted_tup_of ho hc hd hL' fun _ => list_sort_vals (s := { s with heap := copyHeap s.heap vs }) (copyHeap_at s.heap vs) S hL' ⟨rfl, ?_⟩
  exact h _ (by rw [sortVals_length false rfl]; exact e.length) (sortVals_data false e er' hal)
end
section
variable {X : Cx}
/-- sorted(..) of a list or of a tuple -/
def rSortedA (K : PySem.W.Frag) : List V → Hp → VK → Prop := fun vs H Q => ∃ a xs ds, ∃ G : Hp, vs = [.ref a] ∧ (H a = some (.lst xs) ∨ H a = some (.tup xs)) ∧ Same G H ∧ RepAll K G xs ds ∧ Ord ds ∧
  ∀ p ys, H p = none → RepAll K G ys (sortD ds) → ys.length = xs.length → Q (.ref p) (upd H p (.lst ys))
theorem call_sortedA (hu : X.A.units + 64 < cLine) : CallR X (.builtin "sorted") (rSortedA X.K) := by
  intro pins s σ H vs us Q I r h
  obtain ⟨a, xs, ds, G, rfl, ha, sG, hr, od, q⟩ := h
  rcases ha with ha | ha
  · exact call_sorted hu pins s σ H _ us Q I r ⟨a, xs, ds, G, rfl, ha, sG, hr, od, q⟩
  · obtain ⟨u, rfl, ru⟩ := vals1 r
    cases (show u = Value.ref a from ru)
    obtain ⟨hz, its, rv, o, h1, h2, n, h3⟩ := (show ObjOk X.prog X.w H s.heap a (.tup xs) from I.hok a _ ha)
    have e1 := each_rep hr rv
    have e2 : EachIs (fun v d => ∃ as, Reads s.heap v (D.Dat.py d) as) its ds := by
      have : ∀ {ds : List D.Dat} {vs : List Value}, (∀ d ∈ ds, d.pure = true) → EachIs (fun v d => ∃ x, RelV x v ∧ Rep X.K G x d) vs ds → EachIs (fun v d => ∃ as, Reads s.heap v (D.Dat.py d) as) vs ds := by
        intro ds vs hp e
        induction e with
        | nil => exact .nil
        | @cons v d vs ds a _ ih =>
          obtain ⟨x, r, p⟩ := a
          obtain ⟨as, q, _⟩ := Rep.reads I d x v (Rep.mono sG d p) (hp d List.mem_cons_self) r
          exact .cons ⟨as, q⟩ (ih fun y hy => hp y (List.mem_cons_of_mem _ hy))
      exact this od.pu e1
    have hl : xs.length = ds.length := hr.length
    refine sorted_tup_data h1 h2 h3 e1 e2 od.al od.so (by rw [← hl]; exact hz) (fun d hd => ?_) fun out ol eo => ?_
    · have := od.dp d hd
      omega
    · obtain ⟨ys, ry, vy⟩ := rep_each eo
      have yl : ys.length = xs.length := by rw [vy.length, ol, hl]
      obtain ⟨ep, he⟩ := sortedAll_at s.heap its out.toArray
      refine ⟨.ref _, upd H (s.heap.objs.size + 1) (.lst ys), I.laid (t' := s.toks) (fun _ _ => sortedAll_old) (Nat.le_succ _) ?_, rfl, ?_⟩
      · exact ⟨by rw [yl]; exact hz, out, ep, vy, he⟩
      · exact q _ ys (I.hok.fresh (Nat.le_succ _)) ry yl
end
end S

set_option Elab.async false
set_option linter.all false
/-! A loop over what is a list or a tuple. -/
namespace S
open PySem PySem.Spec PyProof.Rows L2 G D L
theorem pi_or {X : Cx} {tg e : Expr} {i1 i2 : TI} (a : PI X tg e i1) (b : PI X tg e i2) : PI X tg e (fun σ H R => i1 σ H R ∨ i2 σ H R) := by
  refine ⟨fun pins s σ H R I h => ?_⟩
  rcases h with h | h
  · exact a.run pins s σ H R I h
  · exact b.run pins s σ H R I h
end S

set_option Elab.async false
set_option linter.all false
set_option maxRecDepth 100000
set_option maxHeartbeats 8000000
namespace K
open PySem PySem.Spec PyProof.Rows L2 G D L S C Sx Kx Ex Lt
open Fz hiding Fr
open C8 (pss_cut tCut)
open PySem.W (dataLt alike AllAlike Sortable)
theorem wdAll_of : ∀ {ds : List Dat}, (∀ d ∈ ds, Wd d) → wdAll ds = true
  | [], _ => rfl
  | d :: ds, h => by
    show (wd d && wdAll ds) = true
    rw [show wd d = true from h d List.mem_cons_self, wdAll_of fun x hx => h x (List.mem_cons_of_mem _ hx)]
    rfl
theorem wd_of {ds : List Dat} (hl : ds.length ≤ 100000) (h : ∀ d ∈ ds, Wd d) : Wd (.lst ds) ∧ Wd (.tup ds) := by
  have q : (decide (ds.length ≤ 100000) && wdAll ds) = true := by
    rw [decide_eq_true hl, wdAll_of h]
    rfl
  exact ⟨q, q⟩
/-- texts can be sorted -/
theorem ord_strs (ws : List Str) : Ord (ws.map Dat.str) := by
  refine ⟨fun d hd => ?_, fun d hd e he => ?_, .inr fun d hd => ?_, fun d hd => ?_⟩
  · obtain ⟨x, _, rfl⟩ := List.mem_map.mp hd
    rfl
  · rw [List.map_map] at hd he
    obtain ⟨x, _, rfl⟩ := List.mem_map.mp hd
    obtain ⟨y, _, rfl⟩ := List.mem_map.mp he
    simp [Dat.py, alike]
  · rw [List.map_map] at hd
    obtain ⟨x, _, rfl⟩ := List.mem_map.mp hd
    exact ⟨fun e => (by cases e), fun xs e => (by cases e)⟩
  · obtain ⟨x, _, rfl⟩ := List.mem_map.mp hd
    simp [Dat.py, PyData.depth]
/-- a list of texts in order: texts again, the same ones -/
theorem sort_strs (ws : List Str) : ∃ us : List Str, sortD (ws.map Dat.str) = us.map Dat.str ∧ us.Perm ws := perm_map_str (List.mergeSort_perm _ _)
/-- a list or a tuple of such data -/
def SeqOf (K : PySem.W.Frag) (H : Hp) (v : V) (ds : List Dat) : Prop := Rep K H v (.lst ds) ∨ Rep K H v (.tup ds)
theorem SeqOf.mono {K : PySem.W.Frag} {H H' : Hp} {v : V} {ds : List Dat} (h : SeqOf K H v ds) (s : Same H H') : SeqOf K H' v ds := h.imp (Rep.mono s _) (Rep.mono s _)
theorem SeqOf.at1 {K : PySem.W.Frag} {H : Hp} {v : V} {ds : List Dat} (h : SeqOf K H v ds) : ∃ p xs, v = .ref p ∧ (H p = some (.lst xs) ∨ H p = some (.tup xs)) ∧ RepAll K H xs ds := by
  rcases h with ⟨p, xs, e, h1, h2⟩ | ⟨p, xs, e, h1, h2⟩
  · exact ⟨p, xs, e, .inl h1, h2⟩
  · exact ⟨p, xs, e, .inr h1, h2⟩
def Rl.key (r : Rl) : List Key := [.inr r.door, .inl r.state, .inr r.kind]
/-- names that a gate takes -/
structure Names (ws : List Str) : Prop where
  nd : ws.Nodup
  ok : ∀ w ∈ ws, nameOk w = true
  len : ws.length ≤ 1000
theorem Names.are {ws : List Str} (h : Names ws) : namesIn (ws.map .str) = true := by
  unfold namesIn
  rw [Bool.and_eq_true, List.map_map, decide_eq_true_eq]
  refine ⟨?_, ?_⟩
  · rw [List.all_map]
    exact List.all_eq_true.mpr fun w hw => h.ok w hw
  · have e : (strOf ∘ Dat.str) = id := rfl
    rw [e, List.map_id]
    exact h.nd
/-- the gate that stands at x: its parts, its rules as they came -/
structure GateAt (K : PySem.W.Frag) (C : Addr) (H : Hp) (x : Addr) (n : Int) (ds cs : List Str) (rs : List Rl) : Prop where
  ex : ∃ (dx d c r : Addr) (kvs : List (List Key × V)) (us ws : List Str), H x = some (.ins C dx [("_states", .int n), ("_doors", .ref d), ("_closet", .ref c), ("_rules", .ref r)]) ∧
    H d = some (.lst (us.map .str)) ∧ H c = some (.lst (ws.map .str)) ∧ H r = some (.dT kvs) ∧ us.Perm ds ∧ ws.Perm cs ∧ kvs.map (·.1) = rs.map Rl.key ∧ RepAll K H (kvs.map (·.2)) (rs.map Rl.dat)
/-- the gate that has just been made at x: its parts are new, its rules the ones handed in -/
structure GateN (K : PySem.W.Frag) (C : Addr) (Gf G H : Hp) (x : Addr) (n : Int) (ds cs : List Str) (rs : List Rl) : Prop where
  ex : ∃ (dx d c r : Addr) (kvs : List (List Key × V)) (us ws : List Str), H x = some (.ins C dx [("_states", .int n), ("_doors", .ref d), ("_closet", .ref c), ("_rules", .ref r)]) ∧
    H d = some (.lst (us.map .str)) ∧ H c = some (.lst (ws.map .str)) ∧ H r = some (.dT kvs) ∧ us.Perm ds ∧ ws.Perm cs ∧ kvs.map (·.1) = rs.map Rl.key ∧ RepAll K Gf (kvs.map (·.2)) (rs.map Rl.dat) ∧ G d = none ∧ G c = none ∧ G r = none
/-- what Gate(..) takes -/
def spInit (K : PySem.W.Frag) (C : Addr) : Sp := fun vs H Q _ => ∃ (x dx : Addr) (n : Int) (v2 v3 v4 : V) (ds cs : List Str) (rs : List Rl) (G Gf : Hp), vs = [.ref x, .int n, v2, v3, v4] ∧ H x = some (.ins C dx []) ∧
  Same Gf G ∧ Same G H ∧ G x = none ∧ SeqOf K Gf v2 (ds.map .str) ∧ SeqOf K Gf v3 (cs.map .str) ∧ SeqOf K Gf v4 (rs.map Rl.dat) ∧ 1 ≤ n ∧ n ≤ 64 ∧ Names ds ∧ Names cs ∧ ds ≠ [] ∧ (∀ r ∈ rs, r.Ok n ds cs) ∧ (rs.map Rl.key).Nodup ∧ rs.length ≤ 1000 ∧
  ∀ H', Same G H' → GateN K C Gf G H' x n ds cs rs → Q .non H'
theorem fs4 (n : Int) (d c r : Addr) : putF "_rules" (.ref r) (putF "_closet" (.ref c) (putF "_doors" (.ref d) (putF "_states" (.int n) []))) =
    ([("_states", .int n), ("_doors", .ref d), ("_closet", .ref c), ("_rules", .ref r)] : List (Str × V)) := by
  have e1 : ¬ (("_states" : Str) = "_doors") := by decide +kernel
  have e2 : ¬ (("_states" : Str) = "_closet") := by decide +kernel
  have e3 : ¬ (("_states" : Str) = "_rules") := by decide +kernel
  have e4 : ¬ (("_doors" : Str) = "_closet") := by decide +kernel
  have e5 : ¬ (("_doors" : Str) = "_rules") := by decide +kernel
  have e6 : ¬ (("_closet" : Str) = "_rules") := by decide +kernel
  simp only [putF, if_neg e1, if_neg e2, if_neg e3, if_neg e4, if_neg e5, if_neg e6]
theorem putF_len (f : Str) (v : V) : ∀ fs : List (Str × V), (putF f v fs).length ≤ fs.length + 1
  | [] => Nat.le_refl _
  | (g, u) :: fs => by
    have := putF_len f v fs
    show (if g = f then _ else _ : List (Str × V)).length ≤ _
    split <;> simp <;> omega
theorem lk4 (a b c d : V) : ([("_states", a), ("_doors", b), ("_closet", c), ("_rules", d)] : List (Str × V)).lookup ("_states" : Str) = some a ∧
    ([("_states", a), ("_doors", b), ("_closet", c), ("_rules", d)] : List (Str × V)).lookup ("_doors" : Str) = some b ∧
    ([("_states", a), ("_doors", b), ("_closet", c), ("_rules", d)] : List (Str × V)).lookup ("_closet" : Str) = some c ∧
    ([("_states", a), ("_doors", b), ("_closet", c), ("_rules", d)] : List (Str × V)).lookup ("_rules" : Str) = some d ∧
    ([("_states", a), ("_doors", b), ("_closet", c), ("_rules", d)] : List (Str × V)).lookup ("_is_rule" : Str) = none := ⟨rfl, rfl, rfl, rfl, rfl⟩
theorem valV_no {κ : Type} [DecidableEq κ] : ∀ {kvs : List (κ × V)} {k : κ}, (∀ kv ∈ kvs, kv.1 ≠ k) → valV kvs k = none
  | [], _, _ => rfl
  | kv :: kvs, k, h => by rw [valV_neg (h kv List.mem_cons_self)]; exact valV_no fun q hq => h q (List.mem_cons_of_mem _ hq)
theorem nodup_take {α : Type} {xs : List α} {i : Nat} {a : α} (h : xs.Nodup) (e : xs[i]? = some a) : a ∉ xs.take i := by
  obtain ⟨hi, e⟩ := List.getElem?_eq_some_iff.mp e
  intro z
  obtain ⟨j, hj, e2⟩ := List.getElem_of_mem z
  rw [List.length_take] at hj
  rw [List.getElem_take] at e2
  exact List.pairwise_iff_getElem.mp h j i (by omega) hi (by omega) (e2.trans e.symm)
theorem Rl.Ok.perm {n : Int} {ds cs us ws : List Str} {r : Rl} (h : r.Ok n ds cs) (p : us.Perm ds) (q : ws.Perm cs) : r.Ok n us ws := by
  have m : ∀ {w : Str} {l : List Str}, w ∈ cs ++ l → w ∈ ws ++ l := fun hw => by
    rcases List.mem_append.mp hw with hw | hw
    · exact List.mem_append_left _ (q.mem_iff.mpr hw)
    · exact List.mem_append_right _ hw
  exact ⟨p.mem_iff.mpr h.door, h.s0, h.s1, m h.kind, h.l0, h.l1, fun e => ⟨(h.told0 e).1, fun w hw => m ((h.told0 e).2 w hw)⟩, fun w hw => m (h.told1 w hw), h.len⟩
theorem cut6 : ¬ (HT.sIx 6 0 none = 0 ∧ HT.sIx 6 6 (some 3) = 6) := by decide +kernel
theorem key_cut (r : Rl) (q : V) : cutV [.str r.door, .int r.state, .str r.kind, .int r.later, .bl r.keeps, q] none (some 3) = r.key.map kV := rfl
section
variable {P : Program} {w : World} {K : PySem.W.Frag} {mg : Str → Option Value} {base : Heap}
abbrev s_Gate___init__ : Stmt := inClass (top 10) 0
theorem sc_Gate___init__ : FnScope ["self", "states", "doors", "closet", "rules", "rule"] ["self", "states", "doors", "closet", "rules"] (defScope s_Gate___init__) := ⟨rfl, rfl, rfl, by decide +kernel, rfl, by decide +kernel, by decide +kernel⟩
theorem ok_init {f C fR : Addr} {fd fdR : FuncData} (F : Fun K "__init__" "Gate.__init__" s_Gate___init__ f fd) (T : Bl mg) (gc : GCls K C)
    (D_is_integer : Def P w K mg base 2 "is_integer" ["thing"] (spB K (fun _ => True) isWhole))
    (D_are_names : Def P w K mg base 3 "are_names" ["thing"] (spB K (fun d => Wd d ∧ ∀ ds, d = .lst ds ∨ d = .tup ds → ds.length < 4000) areNames))
    (M_is_rule : Meth K C "_is_rule" fR) (IR : Fn P w K mg base CX0 4 fR fdR ["self", "thing"] (spIsRule K C)) (b_is_rule : Binds K fdR ["self", "thing"] []) :
    Fn P w K mg base CX0 5 f fd ["self", "states", "doors", "closet", "rules"] (spInit K C) := by
  refine fn_calm F sc_Gate___init__ (fun vs H Q E h => ?_) (fun cdv A outer s H vs Q E hc hr h => ?_)
  · obtain ⟨x, dx, n, v2, v3, v4, ds, cs, rs, G, Gf, rfl, _⟩ := h
    rfl
  · obtain ⟨x, dx, n, v2, v3, v4, ds, cs, rs, G, Gf, rfl, hx, sGf, sG, gx, hd0, hC0, hR0, n1, n64, nd, nc, dn, ok, ndk, lr, k⟩ := h
    have hu64 := hr.units
    have hu := hu_of hr
    have hd := hd0.mono sGf
    have hC := hC0.mono sGf
    have hR := hR0.mono sGf
    refine ⟨_, (pss_cons (ps_if (PW.pt (pw_or (pt_not (pt_val (pe_def D_is_integer hc (hr.mono (by decide)) (pa_cons (pv 1) pa_nil)))) (pw_or1 (pt_not (pt_chain op_le op_le pe_int (pv 1) pe_int)))))
  (pss_one ps_never)
  pss_nil)
 (pss_cons (ps_if (PW.pt (pw_or (pt_not (pt_val (pe_def D_are_names hc (hr.mono (by decide)) (pa_cons (pv 2) pa_nil)))) (pw_or1 (pt_cmpR op_eq (pe_callB call_len_seq (by rfl) T.lenN (by decide +kernel) (pa_cons (pv 2) pa_nil)) pe_int (nomark _)))))
  (pss_one ps_never)
  pss_nil)
 (pss_cons (ps_if (pt_not (pt_val (pe_def D_are_names hc (hr.mono (by decide)) (pa_cons (pv 3) pa_nil))))
  (pss_one ps_never)
  pss_nil)
 (pss_cons (ps_if (pt_not (pt_val (pe_callB call_isiT (by rfl) T.isinstanceN (by decide +kernel) (pa_cons (pv 4) (pa_cons (pe_tup (pa_cons (pe_bltn (v := .ty "list") (by rfl) T.listN (by decide +kernel) rfl) (pa_cons (pe_bltn (v := .ty "tuple") (by rfl) T.tupleN (by decide +kernel) rfl) pa_nil))) pa_nil)))))
  (pss_one ps_never)
  pss_nil)
 (pss_cons (ps_fld (pv 0) (pv 1) rfl)
 (pss_cons (ps_fld (pv 0) (pe_callB (call_sortedA hu64) (by rfl) T.sortedN (by decide +kernel) (pa_cons (pv 2) pa_nil)) rfl)
 (pss_cons (ps_fld (pv 0) (pe_callB (call_sortedA hu64) (by rfl) T.sortedN (by decide +kernel) (pa_cons (pv 3) pa_nil)) rfl)
 (pss_cons (ps_fld (pv 0) pe_dnewT rfl)
 (pss_one (ps_for PassesOwn.never rfl (pi_or (pi_list (pv 4)) (pi_tup (pv 4))) (pg_name (i := 5) sc_Gate___init__.nd rfl (Or.inl rfl))
  (pss_cons (ps_if (PW.pt (pw_or (pt_not (pt_val (pe_mth (pv 0) gc.cl M_is_rule IR hc (hr.mono (by decide)) b_is_rule .nil pass0 (pa_cons (pv 5) pa_nil)))) (pw_or1 (pt_cmp (pc_din hu (pe_slice sl_tup (pv 5) po_none (po_some pe_int)) (pe_fld (pv 0) rfl))))))
  (pss_one ps_never)
  pss_nil)
 (pss_one (ps_dput hu (pe_fld (pv 0) rfl) (pe_slice sl_tup (pv 5) po_none (po_some pe_int)) (pv 5) rfl))))))))))))), ?_⟩
    have wdS : ∀ {ws : List Str}, Names ws → ∀ w ∈ ws, Wd (.str w) := by
      intro ws h w hw
      have q := h.ok w hw
      unfold nameOk at q
      simp only [Bool.and_eq_true, decide_eq_true_eq] at q
      exact decide_eq_true (by omega)
    have okS : ∀ {ws : List Str} {H' : Hp} {v : V}, Names ws → SeqOf K H' v (ws.map .str) → ∃ d, Rep K H' v d ∧ (Wd d ∧ ∀ ds, d = .lst ds ∨ d = .tup ds → ds.length < 4000) ∧ areNames d = true := by
      intro ws H' v h hv
      have w1 := wd_of (ds := ws.map .str) (by rw [List.length_map]; exact Nat.le_trans h.len (by decide)) (fun d hd => by
        obtain ⟨w, hw, rfl⟩ := List.mem_map.mp hd
        exact wdS h w hw)
      have ll : (ws.map Dat.str).length < 4000 := by rw [List.length_map]; exact Nat.lt_of_le_of_lt h.len (by decide)
      rcases hv with hv | hv
      · exact ⟨_, hv, ⟨w1.1, fun es e => by rcases e with e | e <;> cases e; exact ll⟩, h.are⟩
      · exact ⟨_, hv, ⟨w1.2, fun es e => by rcases e with e | e <;> cases e; exact ll⟩, h.are⟩
    -- states
    refine ⟨_, rfl, .int n, .int n, rfl, rfl, trivial, fun H1 s1 => ⟨_, rfl, ?_⟩⟩
    refine iteF ?_
    refine ⟨_, rfl, _, _, rfl, rfl, _, rfl, ?_⟩
    rw [decide_eq_true n1]
    refine iteT ?_
    refine ⟨_, _, rfl, rfl, _, rfl, ?_⟩
    rw [decide_eq_true n64]
    refine iteF ?_
    -- doors
    obtain ⟨dd, rd, od, ed⟩ := okS nd (hd.mono (sG.trans s1))
    refine ⟨_, rfl, v2, dd, rfl, rd, od, fun H2 s2 => ⟨_, rfl, ?_⟩⟩
    rw [ed]
    refine iteF ?_
    have s12 := s1.trans s2
    have sG2 := sG.trans s12
    obtain ⟨p2, xs2, rfl, hp2, rx2⟩ := hd.at1
    have l2 : xs2.length = ds.length := by rw [rx2.length, List.length_map]
    refine ⟨_, rfl, p2, xs2, rfl, (hp2.imp (fun h => SqL.of (sG2 _ _ h)) fun h => SqT.of (sG2 _ _ h)), rfl, _, rfl, ?_⟩
    have l0 : ¬ xs2.length = 0 := fun z => dn (List.length_eq_zero_iff.mp (by rw [← l2]; exact z))
    refine ite2 (fun e => absurd (by have := V.int.inj (of_decide_eq_true e); omega) l0) (fun _ => ?_)
    -- closet
    obtain ⟨dc, rc, oc, ec⟩ := okS nc (hC.mono sG2)
    refine ⟨_, rfl, v3, dc, rfl, rc, oc, fun H3 s3 => ⟨_, rfl, ?_⟩⟩
    rw [ec]
    refine iteF ?_
    have s13 := s12.trans s3
    have sG3 := sG.trans s13
    obtain ⟨p3, xs3, rfl, hp3, rx3⟩ := hC.at1
    -- rules
    refine ⟨_, rfl, by show 2 ≤ sizeLine; decide, fun p hp => ?_⟩
    have s4 := same_upd (o := .tup [.ty "list", .ty "tuple"]) hp
    have s14 := s13.trans s4
    have sG4 := sG.trans s14
    have kit : ∃ d, Rep K (upd H3 p (.tup [.ty "list", .ty "tuple"])) v4 d ∧ d.isSeq = true := by
      rcases hR.mono sG4 with h | h
      · exact ⟨_, h, rfl⟩
      · exact ⟨_, h, rfl⟩
    obtain ⟨d4, r4, q4⟩ := kit
    have k4 := kit_seq r4
    rw [q4] at k4
    refine ⟨_, p, _, _, _, _, rfl, upd_same, .cons (.ty _) (.cons (.ty _) .nil), r4.ty, k4, _, rfl, ?_⟩
    refine iteF ?_
    generalize upd H3 p (.tup [.ty "list", .ty "tuple"]) = H4 at s14 s4 sG4
    clear r4 k4 q4 d4
    -- fields
    refine ⟨_, rfl, _, rfl, x, C, dx, _, rfl, s14 _ _ hx, gc.cl, gc.n1, by decide, ?_⟩
    have w1 : ∀ {H' : Hp} {o : HO}, Same G H' → Same G (upd H' x o) := fun s y o e => by
      rw [upd_ne (fun z => by rw [z, gx] at e; cases e)]
      exact s _ _ e
    have sG5 := w1 (o := .ins C dx (putF "_states" (.int n) [])) sG4
    have hx5 : (upd H4 x (.ins C dx (putF "_states" (.int n) []))) x = some (.ins C dx (putF "_states" (.int n) [])) := upd_same
    generalize upd H4 x (.ins C dx (putF "_states" (.int n) [])) = H5 at sG5 hx5
    obtain ⟨us, eus, pus⟩ := sort_strs ds
    refine ⟨_, rfl, p2, xs2, ds.map .str, G, rfl, hp2.imp (sG5 _ _) (sG5 _ _), sG5, rx2, ord_strs ds, fun p6 ys hp6 ry _ => ?_⟩
    rw [eus] at ry
    obtain rfl := RepAll.strs ry
    have xp6 : x ≠ p6 := ne_of_none hx5 hp6
    have g6 : G p6 = none := sG5.free hp6
    refine ⟨_, rfl, x, C, dx, _, rfl, Eq.trans (upd_ne xp6) hx5, gc.cl, gc.n2, (show 1 < 1000 by decide), ?_⟩
    have sG7 := w1 (o := .ins C dx (putF "_doors" (.ref p6) (putF "_states" (.int n) []))) (sG5.trans (same_upd (o := .lst (us.map .str)) hp6))
    have hd7 : (upd (upd H5 p6 (.lst (us.map .str))) x (.ins C dx (putF "_doors" (.ref p6) (putF "_states" (.int n) [])))) p6 = some (.lst (us.map .str)) := by rw [upd_ne xp6.symm, upd_same]
    have hx7 : (upd (upd H5 p6 (.lst (us.map .str))) x (.ins C dx (putF "_doors" (.ref p6) (putF "_states" (.int n) [])))) x = some (.ins C dx (putF "_doors" (.ref p6) (putF "_states" (.int n) []))) := upd_same
    generalize upd (upd H5 p6 (.lst (us.map .str))) x (.ins C dx (putF "_doors" (.ref p6) (putF "_states" (.int n) []))) = H7 at sG7 hd7 hx7
    -- sorted(closet)
    obtain ⟨ws, ews, pws⟩ := sort_strs cs
    refine ⟨_, rfl, p3, xs3, cs.map .str, G, rfl, hp3.imp (sG7 _ _) (sG7 _ _), sG7, rx3, ord_strs cs, fun p8 zs hp8 rz _ => ?_⟩
    rw [ews] at rz
    obtain rfl := RepAll.strs rz
    have xp8 : x ≠ p8 := ne_of_none hx7 hp8
    have f2 := putF_len "_doors" (.ref p6) (putF "_states" (.int n) [])
    have f1 := putF_len "_states" (.int n) []
    have f3 := putF_len "_closet" (.ref p8) (putF "_doors" (.ref p6) (putF "_states" (.int n) []))
    have f0 : ([] : List (Str × V)).length = 0 := rfl
    refine ⟨_, rfl, x, C, dx, _, rfl, Eq.trans (upd_ne xp8) hx7, gc.cl, gc.n3, by omega, ?_⟩
    have s8 := same_upd (o := .lst (ws.map .str)) hp8
    have g8 : G p8 = none := sG7.free hp8
    have sG9 := w1 (o := .ins C dx (putF "_closet" (.ref p8) (putF "_doors" (.ref p6) (putF "_states" (.int n) [])))) (sG7.trans s8)
    have hd9 : (upd (upd H7 p8 (.lst (ws.map .str))) x (.ins C dx (putF "_closet" (.ref p8) (putF "_doors" (.ref p6) (putF "_states" (.int n) []))))) p6 = some (.lst (us.map .str)) := by
      rw [upd_ne xp6.symm]
      exact s8 _ _ hd7
    have hc9 : (upd (upd H7 p8 (.lst (ws.map .str))) x (.ins C dx (putF "_closet" (.ref p8) (putF "_doors" (.ref p6) (putF "_states" (.int n) []))))) p8 = some (.lst (ws.map .str)) := by rw [upd_ne xp8.symm, upd_same]
    have hx9 : (upd (upd H7 p8 (.lst (ws.map .str))) x (.ins C dx (putF "_closet" (.ref p8) (putF "_doors" (.ref p6) (putF "_states" (.int n) []))))) x = some (.ins C dx (putF "_closet" (.ref p8) (putF "_doors" (.ref p6) (putF "_states" (.int n) [])))) := upd_same
    generalize upd (upd H7 p8 (.lst (ws.map .str))) x (.ins C dx (putF "_closet" (.ref p8) (putF "_doors" (.ref p6) (putF "_states" (.int n) [])))) = H9 at sG9 hd9 hc9 hx9
    intro m hm
    have xm : x ≠ m := ne_of_none hx9 hm
    have sm := same_upd (o := .dT []) hm
    have gm : G m = none := sG9.free hm
    refine ⟨_, rfl, x, C, dx, _, rfl, sm _ _ hx9, gc.cl, gc.n4, by omega, ?_⟩
    rw [fs4]
    have sGa := w1 (o := .ins C dx [("_states", .int n), ("_doors", .ref p6), ("_closet", .ref p8), ("_rules", .ref m)]) (sG9.trans sm)
    have hda : (upd (upd H9 m (.dT [])) x (.ins C dx [("_states", .int n), ("_doors", .ref p6), ("_closet", .ref p8), ("_rules", .ref m)])) p6 = some (.lst (us.map .str)) := by rw [upd_ne xp6.symm]; exact sm _ _ hd9
    have hca : (upd (upd H9 m (.dT [])) x (.ins C dx [("_states", .int n), ("_doors", .ref p6), ("_closet", .ref p8), ("_rules", .ref m)])) p8 = some (.lst (ws.map .str)) := by rw [upd_ne xp8.symm]; exact sm _ _ hc9
    have hma : (upd (upd H9 m (.dT [])) x (.ins C dx [("_states", .int n), ("_doors", .ref p6), ("_closet", .ref p8), ("_rules", .ref m)])) m = some (.dT []) := by rw [upd_ne xm.symm, upd_same]
    have hxa : (upd (upd H9 m (.dT [])) x (.ins C dx [("_states", .int n), ("_doors", .ref p6), ("_closet", .ref p8), ("_rules", .ref m)])) x = some (.ins C dx [("_states", .int n), ("_doors", .ref p6), ("_closet", .ref p8), ("_rules", .ref m)]) := upd_same
    generalize upd (upd H9 m (.dT [])) x (.ins C dx [("_states", .int n), ("_doors", .ref p6), ("_closet", .ref p8), ("_rules", .ref m)]) = Ha at sGa hda hca hma hxa
    obtain ⟨p4, xs4, rfl, hp4f, rx4⟩ := hR0.at1
    have hp4 := hp4f.imp (sGf p4 _) (sGf p4 _)
    have l4 : xs4.length = rs.length := by rw [rx4.length, List.length_map]
    let Pv : Nat → L2.St → Hp → Prop := fun i σ H' => ∃ (kvs : List (List Key × V)) (o : Option V), σ = [some (.ref x), some (.int n), some (.ref p2), some (.ref p3), some (.ref p4), o] ∧ Same G H' ∧
      H' x = some (.ins C dx [("_states", .int n), ("_doors", .ref p6), ("_closet", .ref p8), ("_rules", .ref m)]) ∧ H' p6 = some (.lst (us.map .str)) ∧ H' p8 = some (.lst (ws.map .str)) ∧ H' m = some (.dT kvs) ∧
      kvs.map (·.1) = (rs.take i).map Rl.key ∧ RepAll K Gf (kvs.map (·.2)) ((rs.take i).map Rl.dat)
    rcases hp4 with hp4 | hp4
    · refine .inl ⟨_, rfl, p4, rfl, ⟨_, SqL.of (sGa _ _ hp4)⟩, for_list (K := K) (a := p4) (xs := xs4) Pv ⟨[], _, rfl, sGa, hxa, hda, hca, hma, rfl, rfl⟩ (fun i σ H' _ h => ?_) ?_ ?_⟩
      · obtain ⟨_, _, _, h, _⟩ := h
        exact SqL.of (h _ _ hp4)
      · rintro i y σ H' hy ⟨kvs, o, rfl, sGH, ax, a6, a8, am, ek, er⟩
        obtain ⟨dy, hdy, ryf⟩ := rx4.get hy
        obtain ⟨r, hr', rfl⟩ : ∃ r, rs[i]? = some r ∧ dy = r.dat := by
          rw [List.getElem?_map] at hdy
          cases e : rs[i]? with
          | none => rw [e] at hdy; cases hdy
          | some r => rw [e] at hdy; exact ⟨r, rfl, (Option.some.inj hdy).symm⟩
        have okr : r.Ok n us ws := (ok r (List.mem_of_getElem? hr')).perm pus pws
        obtain ⟨ls, ld, lc, lru, lno⟩ := lk4 (.int n) (.ref p6) (.ref p8) (.ref m)
        have self : Self3 C H' x n us ws := ⟨dx, _, p6, p8, ax, ls, ld, lc, a6, a8, by rw [pus.length_eq]; exact nd.len, by rw [pws.length_eq]; exact nc.len⟩
        have ry := Rep.mono sGf _ ryf
        have ry0 := ry
        obtain ⟨pr, _, rfl, hpr, v1, _, rfl, e1, v2, _, rfl, e2, v3, _, rfl, e3, v4, _, rfl, e4, v5, _, rfl, e5, v6, _, rfl, e6, rfl⟩ := ry
        obtain rfl : v1 = .str r.door := e1
        obtain rfl : v2 = .int r.state := e2
        obtain rfl : v3 = .str r.kind := e3
        obtain rfl : v4 = .int r.later := e4
        obtain rfl : v5 = .bl r.keeps := e5
        refine ⟨_, rfl, x, dx, _, rfl, ax, lno, _, rfl, x, .ref pr, n, us, ws, r, rfl, self, Rep.mono sGH _ ry0, okr, fun H2 s2 => ⟨_, rfl, ?_⟩⟩
        refine iteF ?_
        have sG2' := sGH.trans s2
        refine ⟨_, rfl, _, rfl, pr, _, rfl, SqT.of (sG2' _ _ hpr), cut6, fun q hq => ?_⟩
        have sq := s2.trans (same_upd (o := .tup (cutV [.str r.door, .int r.state, .str r.kind, .int r.later, .bl r.keeps, v6] none (some 3))) hq)
        have aq : (upd H2 q (.tup (cutV [.str r.door, .int r.state, .str r.kind, .int r.later, .bl r.keeps, v6] none (some 3)))) q = some (.tup (r.key.map kV)) := upd_same
        generalize upd H2 q (.tup (cutV [.str r.door, .int r.state, .str r.kind, .int r.later, .bl r.keeps, v6] none (some 3))) = H3 at sq aq
        have nk : valV kvs r.key = none := by
          refine valV_no fun kv hkv => ?_
          intro z
          have h1 : kv.1 ∈ (rs.take i).map Rl.key := by rw [← ek]; exact List.mem_map_of_mem hkv
          rw [z] at h1
          have h2 : (rs.map Rl.key)[i]? = some r.key := by rw [List.getElem?_map, hr']; rfl
          exact nodup_take ndk h2 (by rw [← List.map_take]; exact h1)
        refine ⟨_, rfl, x, C, dx, _, _, rfl, sq _ _ ax, gc.cl, gc.n4, lru, m, none, rfl, .inr ⟨kvs, r.key, q, .inl (sq _ _ am), rfl, aq, nk.symm⟩, _, rfl, ?_⟩
        refine iteF ?_
        refine ⟨_, rfl, _, rfl, x, C, dx, _, _, rfl, sq _ _ ax, gc.cl, gc.n4, lru, _, rfl, _, rfl, pr, _, rfl, SqT.of ((sGH.trans sq) _ _ hpr), cut6, fun q2 hq2 => ?_⟩
        have sq2 := sq.trans (same_upd (o := .tup (cutV [.str r.door, .int r.state, .str r.kind, .int r.later, .bl r.keeps, v6] none (some 3))) hq2)
        have aq2 : (upd H3 q2 (.tup (cutV [.str r.door, .int r.state, .str r.kind, .int r.later, .bl r.keeps, v6] none (some 3)))) q2 = some (.tup (r.key.map kV)) := upd_same
        generalize upd H3 q2 (.tup (cutV [.str r.door, .int r.state, .str r.kind, .int r.later, .bl r.keeps, v6] none (some 3))) = H5 at sq2 aq2
        have lk : kvs.length ≤ 1000 := by
          have := congrArg List.length ek
          rw [List.length_map, List.length_map, List.length_take] at this
          omega
        have am5 := sq2 _ _ am
        refine ⟨m, _, rfl, .inr ⟨kvs, r.key, q2, am5, rfl, aq2, Nat.lt_of_le_of_lt lk (by decide), rfl⟩, putK kvs r.key (.ref pr), _, rfl, ?_, ?_, ?_, ?_, upd_same, ?_, ?_⟩
        · intro z o e
          rw [upd_ne (fun z' => by rw [z', gm] at e; cases e)]
          exact (sGH.trans sq2) _ _ e
        · rw [upd_ne (fun z => by have h := sq2 _ _ ax; rw [z, am5] at h; cases h)]
          exact sq2 _ _ ax
        · rw [upd_ne (fun z => by have h := sq2 _ _ a6; rw [z, am5] at h; cases h)]
          exact sq2 _ _ a6
        · rw [upd_ne (fun z => by have h := sq2 _ _ a8; rw [z, am5] at h; cases h)]
          exact sq2 _ _ a8
        · rw [putK_new _ nk, List.map_append, ek, List.take_add_one, hr', List.map_append]
          rfl
        · rw [putK_new _ nk, List.map_append, List.take_add_one, hr', List.map_append]
          exact RepAll.append er (.one ryf)
      · rintro σ H' ⟨kvs, o, rfl, sGH, ax, a6, a8, am, ek, er⟩
        rw [l4, List.take_length] at ek er
        exact k H' sGH ⟨dx, p6, p8, m, kvs, us, ws, ax, a6, a8, am, pus, pws, ek, er, g6, g8, gm⟩
    · refine .inr ⟨_, rfl, p4, rfl, ⟨_, SqT.of (sGa _ _ hp4)⟩, for_tup (K := K) (a := p4) (xs := xs4) Pv ⟨[], _, rfl, sGa, hxa, hda, hca, hma, rfl, rfl⟩ (fun i σ H' _ h => ?_) ?_ ?_⟩
      · obtain ⟨_, _, _, h, _⟩ := h
        exact SqT.of (h _ _ hp4)
      · rintro i y σ H' hy ⟨kvs, o, rfl, sGH, ax, a6, a8, am, ek, er⟩
        obtain ⟨dy, hdy, ryf⟩ := rx4.get hy
        obtain ⟨r, hr', rfl⟩ : ∃ r, rs[i]? = some r ∧ dy = r.dat := by
          rw [List.getElem?_map] at hdy
          cases e : rs[i]? with
          | none => rw [e] at hdy; cases hdy
          | some r => rw [e] at hdy; exact ⟨r, rfl, (Option.some.inj hdy).symm⟩
        have okr : r.Ok n us ws := (ok r (List.mem_of_getElem? hr')).perm pus pws
        obtain ⟨ls, ld, lc, lru, lno⟩ := lk4 (.int n) (.ref p6) (.ref p8) (.ref m)
        have self : Self3 C H' x n us ws := ⟨dx, _, p6, p8, ax, ls, ld, lc, a6, a8, by rw [pus.length_eq]; exact nd.len, by rw [pws.length_eq]; exact nc.len⟩
        have ry := Rep.mono sGf _ ryf
        have ry0 := ry
        obtain ⟨pr, _, rfl, hpr, v1, _, rfl, e1, v2, _, rfl, e2, v3, _, rfl, e3, v4, _, rfl, e4, v5, _, rfl, e5, v6, _, rfl, e6, rfl⟩ := ry
        obtain rfl : v1 = .str r.door := e1
        obtain rfl : v2 = .int r.state := e2
        obtain rfl : v3 = .str r.kind := e3
        obtain rfl : v4 = .int r.later := e4
        obtain rfl : v5 = .bl r.keeps := e5
        refine ⟨_, rfl, x, dx, _, rfl, ax, lno, _, rfl, x, .ref pr, n, us, ws, r, rfl, self, Rep.mono sGH _ ry0, okr, fun H2 s2 => ⟨_, rfl, ?_⟩⟩
        refine iteF ?_
        have sG2' := sGH.trans s2
        refine ⟨_, rfl, _, rfl, pr, _, rfl, SqT.of (sG2' _ _ hpr), cut6, fun q hq => ?_⟩
        have sq := s2.trans (same_upd (o := .tup (cutV [.str r.door, .int r.state, .str r.kind, .int r.later, .bl r.keeps, v6] none (some 3))) hq)
        have aq : (upd H2 q (.tup (cutV [.str r.door, .int r.state, .str r.kind, .int r.later, .bl r.keeps, v6] none (some 3)))) q = some (.tup (r.key.map kV)) := upd_same
        generalize upd H2 q (.tup (cutV [.str r.door, .int r.state, .str r.kind, .int r.later, .bl r.keeps, v6] none (some 3))) = H3 at sq aq
        have nk : valV kvs r.key = none := by
          refine valV_no fun kv hkv => ?_
          intro z
          have h1 : kv.1 ∈ (rs.take i).map Rl.key := by rw [← ek]; exact List.mem_map_of_mem hkv
          rw [z] at h1
          have h2 : (rs.map Rl.key)[i]? = some r.key := by rw [List.getElem?_map, hr']; rfl
          exact nodup_take ndk h2 (by rw [← List.map_take]; exact h1)
        refine ⟨_, rfl, x, C, dx, _, _, rfl, sq _ _ ax, gc.cl, gc.n4, lru, m, none, rfl, .inr ⟨kvs, r.key, q, .inl (sq _ _ am), rfl, aq, nk.symm⟩, _, rfl, ?_⟩
        refine iteF ?_
        refine ⟨_, rfl, _, rfl, x, C, dx, _, _, rfl, sq _ _ ax, gc.cl, gc.n4, lru, _, rfl, _, rfl, pr, _, rfl, SqT.of ((sGH.trans sq) _ _ hpr), cut6, fun q2 hq2 => ?_⟩
        have sq2 := sq.trans (same_upd (o := .tup (cutV [.str r.door, .int r.state, .str r.kind, .int r.later, .bl r.keeps, v6] none (some 3))) hq2)
        have aq2 : (upd H3 q2 (.tup (cutV [.str r.door, .int r.state, .str r.kind, .int r.later, .bl r.keeps, v6] none (some 3)))) q2 = some (.tup (r.key.map kV)) := upd_same
        generalize upd H3 q2 (.tup (cutV [.str r.door, .int r.state, .str r.kind, .int r.later, .bl r.keeps, v6] none (some 3))) = H5 at sq2 aq2
        have lk : kvs.length ≤ 1000 := by
          have := congrArg List.length ek
          rw [List.length_map, List.length_map, List.length_take] at this
          omega
        have am5 := sq2 _ _ am
        refine ⟨m, _, rfl, .inr ⟨kvs, r.key, q2, am5, rfl, aq2, Nat.lt_of_le_of_lt lk (by decide), rfl⟩, putK kvs r.key (.ref pr), _, rfl, ?_, ?_, ?_, ?_, upd_same, ?_, ?_⟩
        · intro z o e
          rw [upd_ne (fun z' => by rw [z', gm] at e; cases e)]
          exact (sGH.trans sq2) _ _ e
        · rw [upd_ne (fun z => by have h := sq2 _ _ ax; rw [z, am5] at h; cases h)]
          exact sq2 _ _ ax
        · rw [upd_ne (fun z => by have h := sq2 _ _ a6; rw [z, am5] at h; cases h)]
          exact sq2 _ _ a6
        · rw [upd_ne (fun z => by have h := sq2 _ _ a8; rw [z, am5] at h; cases h)]
          exact sq2 _ _ a8
        · rw [putK_new _ nk, List.map_append, ek, List.take_add_one, hr', List.map_append]
          rfl
        · rw [putK_new _ nk, List.map_append, List.take_add_one, hr', List.map_append]
          exact RepAll.append er (.one ryf)
      · rintro σ H' ⟨kvs, o, rfl, sGH, ax, a6, a8, am, ek, er⟩
        rw [l4, List.take_length] at ek er
        exact k H' sGH ⟨dx, p6, p8, m, kvs, us, ws, ax, a6, a8, am, pus, pws, ek, er, g6, g8, gm⟩
end
end K

set_option Elab.async false
set_option linter.all false
set_option maxRecDepth 100000
set_option maxHeartbeats 8000000
namespace K
open PySem PySem.Spec PyProof.Rows L2 G D L S C Sx Kx Ex Lt
open Fz hiding Fr
open C8 (pss_cut tCut)
open PySem.W (dataLt alike AllAlike Sortable)
theorem GateAt.mono {K : PySem.W.Frag} {C x : Addr} {H H' : Hp} {n : Int} {ds cs : List Str} {rs : List Rl} (h : GateAt K C H x n ds cs rs) (s : Same H H') : GateAt K C H' x n ds cs rs := by
  obtain ⟨dx, d, c, r, kvs, us, ws, h1, h2, h3, h4, h5, h6, h7, h8⟩ := h.ex
  exact ⟨dx, d, c, r, kvs, us, ws, s _ _ h1, s _ _ h2, s _ _ h3, s _ _ h4, h5, h6, h7, RepAll.mono s _ h8⟩
/-- what a gate hears when something is given -/
def kindOf (cs : List Str) (g : Str) : Str := if g = "" ∨ g ∈ cs then g else "?"
/-- the rule of a key, if it is one -/
def ruleOf (rs : List Rl) : Dat → Dat → Dat → Option Rl
  | .str a, .int i, .str k => rs.find? fun r => decide (r.key = [.inr a, .inl i, .inr k])
  | _, _, _ => none
/-- a rule, or None -/
def RepRule (K : PySem.W.Frag) (H : Hp) (v : V) : Option Rl → Prop
  | some r => Rep K H v r.dat
  | none => v = .non
theorem val_find {K : PySem.W.Frag} {H : Hp} : ∀ {rs : List Rl} {kvs : List (List Key × V)}, kvs.map (·.1) = rs.map Rl.key → RepAll K H (kvs.map (·.2)) (rs.map Rl.dat) → ∀ k,
    RepRule K H ((valV kvs k).getD .non) (rs.find? fun r => decide (r.key = k))
  | [], kvs, e, _, k => by
    rw [List.map_eq_nil_iff.mp e]
    rfl
  | r :: rs, kvs, e, h, k => by
    match kvs, e, h with
    | (k1, v1) :: kvs, e, h =>
      rw [List.map_cons, List.map_cons] at e
      injection e with e1 e2
      obtain ⟨v, t, e3, hv, ht⟩ := h
      rw [List.map_cons] at e3
      injection e3 with e4 e5
      by_cases q : k1 = k
      · rw [valV_pos (p := (k1, v1)) q, List.find?_cons_of_pos (by simpa [← e1] using q)]
        show Rep K H v1 r.dat
        rw [show v1 = v from e4]
        exact hv
      · rw [valV_neg (p := (k1, v1)) q, List.find?_cons_of_neg (by simpa [← e1] using q)]
        exact val_find e2 (by rw [e5]; exact ht) k
/-- the names that are told -/
def toldOf (told : List Str) (kept given : Str) : List Str := told.flatMap fun (w : Str) => if w = "+given" then [given] else if w ≠ "+kept" then [w] else if kept ≠ "" then [kept] else []
theorem told_len (told : List Str) (kept given : Str) : (toldOf told kept given).length ≤ told.length := by
  unfold toldOf
  induction told with
  | nil => exact Nat.le_refl _
  | cons w ws ih =>
    rw [List.flatMap_cons, List.length_append, List.length_cons]
    have : (if w = "+given" then [given] else if w ≠ "+kept" then [w] else if kept ≠ "" then [kept] else []).length ≤ 1 := by
      split
      · exact Nat.le_refl _
      · split
        · exact Nat.le_refl _
        · split
          · exact Nat.le_refl _
          · exact Nat.zero_le _
    omega
/-- a call, as the rules have it -/
def callOf (rs : List Rl) (cs : List Str) (st : Int) (kept door given : Str) : Dat := match ruleOf rs (.str door) (.int st) (.str (kindOf cs given)) with
  | none => .tup [.int st, .str kept, .lst []]
  | some r => .tup [.int r.later, .str (if r.keeps then given else kept), .lst ((toldOf r.told kept given).map .str)]
def spKind (K : PySem.W.Frag) (C : Addr) : Sp := fun vs H Q _ => ∃ (x : Addr) (g : Str) (n : Int) (ds cs : List Str) (rs : List Rl), vs = [.ref x, .str g] ∧ GateAt K C H x n ds cs rs ∧ Q (.str (kindOf cs g)) H
def spRuleFor (K : PySem.W.Frag) (C : Addr) : Sp := fun vs H Q _ => ∃ (x : Addr) (v1 v2 v3 : V) (d1 d2 d3 : Dat) (n : Int) (ds cs : List Str) (rs : List Rl), vs = [.ref x, v1, v2, v3] ∧ GateAt K C H x n ds cs rs ∧
  Rep K H v1 d1 ∧ Rep K H v2 d2 ∧ Rep K H v3 d3 ∧ ∀ v H', Same H H' → RepRule K H' v (ruleOf rs d1 d2 d3) → Q v H'
/-- a new tuple, its last item a new list -/
def NewC (H H' : Hp) (v : V) : Prop := ∃ (t D : Addr) (x y : V) (ns : List V), v = .ref t ∧ H' t = some (.tup [x, y, .ref D]) ∧ H' D = some (.lst ns) ∧ H D = none ∧ H t = none
def spCall (K : PySem.W.Frag) (C : Addr) : Sp := fun vs H Q _ => ∃ (x : Addr) (st : Int) (kept door given : Str) (n : Int) (ds cs : List Str) (rs : List Rl), vs = [.ref x, .int st, .str kept, .str door, .str given] ∧
  GateAt K C H x n ds cs rs ∧ (∀ r ∈ rs, r.told.length ≤ 1000) ∧ ∀ v H', Same H H' → Rep K H' v (callOf rs cs st kept door given) → NewC H H' v → Q v H'
section
variable {P : Program} {w : World} {K : PySem.W.Frag} {mg : Str → Option Value} {base : Heap}
abbrev s_Gate_kind_of : Stmt := inClass (top 10) 6
theorem sc_Gate_kind_of : FnScope ["self", "given"] ["self", "given"] (defScope s_Gate_kind_of) := ⟨rfl, rfl, rfl, by decide +kernel, rfl, by decide +kernel, by decide +kernel⟩
theorem ok_kind_of {f C : Addr} {fd : FuncData} (F : Fun K "kind_of" "Gate.kind_of" s_Gate_kind_of f fd) (T : Bl mg) (gc : GCls K C) : Fn P w K mg base CX0 1 f fd ["self", "given"] (spKind K C) := by
  refine fn_calm F sc_Gate_kind_of (fun vs H Q E h => ?_) (fun cdv A outer s H vs Q E hc hr h => ?_)
  · obtain ⟨x, g, n, ds, cs, rs, rfl, _⟩ := h
    rfl
  · obtain ⟨x, g, n, ds, cs, rs, rfl, hx, k⟩ := h
    obtain ⟨dx, d, c, r, kvs, us, ws, h1, h2, h3, h4, h5, h6, h7, h8⟩ := hx.ex
    obtain ⟨ls, ld, lc, lru, lno⟩ := lk4 (.int n) (.ref d) (.ref c) (.ref r)
    refine ⟨_, (pss_cons (ps_if (PW.pt (pw_or (pt_cmpR op_eq (pv 1) pe_str (nomark _)) (pw_or1 (pt_cmpR op_in_seq (pv 1) (pe_fld (pv 0) rfl) (by rfl)))))
  (pss_one (ps_ret (pv 1)))
  pss_nil)
 (pss_one (ps_ret pe_str))), ?_⟩
    unfold kindOf at k
    refine ⟨_, rfl, rfl, _, rfl, ?_⟩
    refine ite2 (fun e => ?_) (fun e => ?_)
    · refine iteT ?_
      refine ⟨_, rfl, ?_⟩
      rw [if_pos (.inl (V.str.inj (of_decide_eq_true e)))] at k
      exact k
    · refine ⟨_, rfl, _, rfl, x, C, dx, _, _, rfl, h1, gc.cl, gc.n3, lc, c, _, rfl, .inl (SqL.of h3), rfl, flat_strs _, _, rfl, ?_⟩
      rw [inV_str]
      have ng : ¬ g = "" := fun z => e (decide_eq_true (by rw [z]))
      refine ite2 (fun e2 => ?_) (fun e2 => ?_)
      · refine ⟨_, rfl, ?_⟩
        rw [if_pos (.inr (h6.mem_iff.mp (by simpa using e2)))] at k
        exact k
      · rw [if_neg (fun z => by
          rcases z with z | z
          · exact ng z
          · exact e2 (by simpa using h6.mem_iff.mpr z))] at k
        exact k
abbrev s_Gate_rule_for : Stmt := inClass (top 10) 7
theorem sc_Gate_rule_for : FnScope ["self", "door", "state", "kind"] ["self", "door", "state", "kind"] (defScope s_Gate_rule_for) := ⟨rfl, rfl, rfl, by decide +kernel, rfl, by decide +kernel, by decide +kernel⟩
theorem ok_rule_for {f C : Addr} {fd : FuncData} (F : Fun K "rule_for" "Gate.rule_for" s_Gate_rule_for f fd) (T : Bl mg) (gc : GCls K C)
    (D_is_integer : Def P w K mg base 2 "is_integer" ["thing"] (spB K (fun _ => True) isWhole)) : Fn P w K mg base CX0 3 f fd ["self", "door", "state", "kind"] (spRuleFor K C) := by
  refine fn_calm F sc_Gate_rule_for (fun vs H Q E h => ?_) (fun cdv A outer s H vs Q E hc hr h => ?_)
  · obtain ⟨x, v1, v2, v3, d1, d2, d3, n, ds, cs, rs, rfl, _⟩ := h
    rfl
  · obtain ⟨x, v1, v2, v3, d1, d2, d3, n, ds, cs, rs, rfl, hx, r1, r2, r3, k⟩ := h
    obtain ⟨dx, d, c, r, kvs, us, ws, h1, h2, h3, h4, h5, h6, h7, h8⟩ := hx.ex
    obtain ⟨ls, ld, lc, lru, lno⟩ := lk4 (.int n) (.ref d) (.ref c) (.ref r)
    have hu := hu_of hr
    refine ⟨_, (pss_cons (ps_if (PW.pt (pw_or (pt_not (pt_val (pe_callB call_isi (by rfl) T.isinstanceN (by decide +kernel) (pa_cons (pv 1) (pa_cons (pe_bltn (v := .ty "str") (by rfl) T.strN (by decide +kernel) rfl) pa_nil))))) (pw_or (pt_not (pt_val (pe_def D_is_integer hc (hr.mono (by decide)) (pa_cons (pv 2) pa_nil)))) (pw_or1 (pt_not (pt_val (pe_callB call_isi (by rfl) T.isinstanceN (by decide +kernel) (pa_cons (pv 3) (pa_cons (pe_bltn (v := .ty "str") (by rfl) T.strN (by decide +kernel) rfl) pa_nil)))))))))
  (pss_one (ps_ret pe_non))
  pss_nil)
 (pss_one (ps_ret (pe_dget1 hu (pe_fld (pv 0) rfl) (pe_tup (pa_cons (pv 1) (pa_cons (pv 2) (pa_cons (pv 3) pa_nil)))) ⟨by rfl, by rfl, by rfl, by rfl⟩)))), ?_⟩
    refine ⟨_, rfl, _, _, _, _, _, rfl, .ty "str", r1.ty, kit_str r1, _, rfl, ?_⟩
    have no1 : d1.isStr = false → ruleOf rs d1 d2 d3 = none := fun e => by cases d1 <;> first | rfl | cases e
    have no2 : isWhole d2 = false → ruleOf rs d1 d2 d3 = none := fun e => by cases d1 <;> cases d2 <;> first | rfl | cases e
    have no3 : d3.isStr = false → ruleOf rs d1 d2 d3 = none := fun e => by cases d1 <;> cases d2 <;> cases d3 <;> first | rfl | cases e
    have no : ∀ H', Same H H' → ruleOf rs d1 d2 d3 = none → Q .non H' := fun H' s e => k .non H' s (by rw [e]; rfl)
    cases e1 : d1.isStr with
    | false =>
      refine iteT ?_
      refine iteT ?_
      exact no H (.refl H) (no1 e1)
    | true =>
      refine iteF ?_
      refine ⟨_, rfl, v2, d2, rfl, r2, trivial, fun H1 s1 => ⟨_, rfl, ?_⟩⟩
      cases e2 : isWhole d2 with
      | false =>
        refine iteT ?_
        refine iteT ?_
        exact no H1 s1 (no2 e2)
      | true =>
        refine iteF ?_
        refine ⟨_, rfl, _, _, _, _, _, rfl, .ty "str", (Rep.mono s1 _ r3).ty, kit_str (Rep.mono s1 _ r3), _, rfl, ?_⟩
        cases e3 : d3.isStr with
        | false =>
          refine iteT ?_
          exact no H1 s1 (no3 e3)
        | true =>
          refine iteF ?_
          match d1, d2, d3, e1, e2, e3, r1, r2, r3, k with
          | .str a, .int i, .str b, _, _, _, r1, r2, r3, k =>
            obtain rfl : v1 = .str a := r1
            obtain rfl : v2 = .int i := r2
            obtain rfl : v3 = .str b := r3
            refine ⟨_, rfl, x, C, dx, _, _, rfl, s1 _ _ h1, gc.cl, gc.n4, lru, r, rfl, .inr ⟨kvs, .inl (s1 _ _ h4)⟩, _, rfl, _, rfl, _, rfl, by show 3 ≤ sizeLine; decide, fun q hq => ?_⟩
            have sq := s1.trans (same_upd (o := .tup [V.str a, V.int i, V.str b]) hq)
            refine ⟨_, .inr ⟨kvs, [.inr a, .inl i, .inr b], q, .inl (sq _ _ h4), rfl, upd_same, rfl⟩, ?_⟩
            exact k _ _ sq (val_find h7 (RepAll.mono sq _ h8) _)
abbrev s_Gate_call : Stmt := inClass (top 10) 8
theorem sc_Gate_call : FnScope ["self", "state", "kept", "door", "given", "rule", "names", "word"] ["self", "state", "kept", "door", "given"] (defScope s_Gate_call) := ⟨rfl, rfl, rfl, by decide +kernel, rfl, by decide +kernel, by decide +kernel⟩
theorem ok_call {f C fK fR : Addr} {fd fdK fdR : FuncData} (F : Fun K "call" "Gate.call" s_Gate_call f fd) (T : Bl mg) (gc : GCls K C)
    (M_kind_of : Meth K C "kind_of" fK) (KO : Fn P w K mg base CX0 1 fK fdK ["self", "given"] (spKind K C)) (b_kind_of : Binds K fdK ["self", "given"] [])
    (M_rule_for : Meth K C "rule_for" fR) (RF : Fn P w K mg base CX0 3 fR fdR ["self", "door", "state", "kind"] (spRuleFor K C)) (b_rule_for : Binds K fdR ["self", "door", "state", "kind"] []) :
    Fn P w K mg base CX0 4 f fd ["self", "state", "kept", "door", "given"] (spCall K C) := by
  refine fn_calm F sc_Gate_call (fun vs H Q E h => ?_) (fun cdv A outer s H vs Q E hc hr h => ?_)
  · obtain ⟨x, st, kept, door, given, n, ds, cs, rs, rfl, _⟩ := h
    rfl
  · obtain ⟨x, st, kept, door, given, n, ds, cs, rs, rfl, hx, hl, k⟩ := h
    obtain ⟨dx, d, c, r, kvs, us, ws, h1, h2, h3, h4, h5, h6, h7, h8⟩ := hx.ex
    have nl1 : ([("_states", .int n), ("_doors", .ref d), ("_closet", .ref c), ("_rules", .ref r)] : List (Str × V)).lookup ("rule_for" : Str) = none := rfl
    have nl2 : ([("_states", .int n), ("_doors", .ref d), ("_closet", .ref c), ("_rules", .ref r)] : List (Str × V)).lookup ("kind_of" : Str) = none := rfl
    refine ⟨_, (pss_cons (ps_set (i := 5) sc_Gate_call.nd rfl (Or.inl rfl) (pe_mth (pv 0) gc.cl M_rule_for RF hc (hr.mono (by decide)) b_rule_for .nil pass0 (pa_cons (pv 3) (pa_cons (pv 1) (pa_cons (pe_mth (pv 0) gc.cl M_kind_of KO hc (hr.mono (by decide)) b_kind_of .nil pass0 (pa_cons (pv 4) pa_nil)) pa_nil)))))
 (pss_cons (ps_if (pt_cmpR op_isN (pv 5) pe_non (nomark _))
  (pss_one (ps_ret (pe_tup (pa_cons (pv 1) (pa_cons (pv 2) (pa_cons (pe_lst pa_nil) pa_nil))))))
  pss_nil)
 (pss_cons (ps_set (i := 6) sc_Gate_call.nd rfl (Or.inl rfl) (pe_lst pa_nil))
 (pss_cons (ps_for PassesOwn.never rfl (pi_tup (pe_ix ix_tup (pv 5) pe_int (fun _ _ => rfl))) (pg_name (i := 7) sc_Gate_call.nd rfl (Or.inl rfl))
  (pss_one (ps_if (pt_cmpR op_eq (pv 7) pe_str (nomark _))
  (pss_one (ps_expr (pe_bm PySem.F.plainAttrs_list PySem.F.slot_list_append PySem.F.type_list_append mt_append (pv 6) (pa_cons (pv 4) pa_nil))))
  (pss_one (ps_if (pt_cmpR op_ne (pv 7) pe_str (nomark _))
  (pss_one (ps_expr (pe_bm PySem.F.plainAttrs_list PySem.F.slot_list_append PySem.F.type_list_append mt_append (pv 6) (pa_cons (pv 7) pa_nil))))
  (pss_one (ps_if (pt_cmpR op_ne (pv 2) pe_str (nomark _))
  (pss_one (ps_expr (pe_bm PySem.F.plainAttrs_list PySem.F.slot_list_append PySem.F.type_list_append mt_append (pv 6) (pa_cons (pv 2) pa_nil))))
  pss_nil)))))))
 (pss_one (ps_ret (pe_tup (pa_cons (pe_ix ix_tup (pv 5) pe_int (fun _ _ => rfl)) (pa_cons (pe_ifExp (pt_val (pe_ix ix_tup (pv 5) pe_int (fun _ _ => rfl))) (pv 4) (pv 2)) (pa_cons (pv 6) pa_nil)))))))))), ?_⟩
    refine ⟨_, rfl, x, dx, _, rfl, h1, nl1, _, rfl, _, rfl, _, rfl, x, dx, _, rfl, h1, nl2, _, rfl, x, given, n, ds, cs, rs, rfl, hx, ?_⟩
    refine ⟨x, .str door, .int st, .str (kindOf cs given), .str door, .int st, .str (kindOf cs given), n, ds, cs, rs, rfl, hx, rfl, rfl, rfl, fun v H1 s1 rr => ?_⟩
    unfold callOf at k
    cases er : ruleOf rs (.str door) (.int st) (.str (kindOf cs given)) with
    | none =>
      rw [er] at rr k
      obtain rfl : v = .non := rr
      refine ⟨_, rfl, rfl, _, rfl, ?_⟩
      refine iteT ?_
      refine ⟨_, rfl, _, rfl, by decide, fun p hp => ⟨by show 3 ≤ sizeLine; decide, fun q hq => ?_⟩⟩
      have s2 := same_upd (o := .lst []) hp
      have s3 := same_upd (o := .tup [V.int st, V.str kept, V.ref p]) hq
      exact k _ _ ((s1.trans s2).trans s3) ⟨q, _, rfl, upd_same, _, _, rfl, rfl, _, _, rfl, rfl, _, _, rfl, ⟨p, [], rfl, s3 _ _ upd_same, rfl⟩, rfl⟩ ⟨q, p, _, _, [], rfl, upd_same, s3 _ _ upd_same, s1.free hp, (s1.trans s2).free hq⟩
    | some ru =>
      rw [er] at rr k
      have mr : ru ∈ rs := List.mem_of_find?_eq_some (show rs.find? _ = some ru from er)
      have lt := hl ru mr
      obtain ⟨p, _, rfl, hp, v1, _, rfl, e1, v2, _, rfl, e2, v3, _, rfl, e3, v4, _, rfl, e4, v5, _, rfl, e5, v6, _, rfl, e6, rfl⟩ := rr
      obtain rfl : v4 = .int ru.later := e4
      obtain rfl : v5 = .bl ru.keeps := e5
      obtain ⟨q, ws', rfl, hq, ht⟩ := e6
      obtain rfl := RepAll.strs ht
      refine ⟨_, rfl, rfl, _, rfl, ?_⟩
      refine iteF ?_
      refine ⟨by decide, fun D hD => ?_⟩
      refine ⟨_, rfl, p, _, 5, .ref q, rfl, rfl, SqT.of ((same_upd (o := .lst []) hD) _ _ hp), rfl, q, rfl, ⟨_, SqT.of ((same_upd (o := .lst []) hD) _ _ hq)⟩,
        for_tup (K := K) (a := q) (xs := ru.told.map .str) (fun i σ H' => ∃ (o : Option V), σ = [some (.ref x), some (.int st), some (.str kept), some (.str door), some (.str given), some (.ref p), some (.ref D), o] ∧
          Same H1 H' ∧ H' D = some (.lst ((toldOf (ru.told.take i) kept given).map .str))) ⟨none, rfl, same_upd hD, upd_same⟩ (fun i σ H' _ h => ?_) ?_ ?_⟩
      · obtain ⟨_, _, h, _⟩ := h
        exact SqT.of (h _ _ hq)
      · rintro i y σ H' hy ⟨o, rfl, sH, aD⟩
        obtain ⟨u, hu, rfl⟩ : ∃ u, ru.told[i]? = some u ∧ y = V.str u := by
          rw [List.getElem?_map] at hy
          cases e : ru.told[i]? with
          | none => rw [e] at hy; cases hy
          | some u => rw [e] at hy; exact ⟨u, rfl, (Option.some.inj hy).symm⟩
        have hi : i < ru.told.length := (List.getElem?_eq_some_iff.mp hu).1
        have lz : ((toldOf (ru.told.take i) kept given).map V.str).length < sizeLine := by
          rw [List.length_map]
          refine Nat.lt_of_le_of_lt (Nat.le_trans (told_len _ _ _) ?_) (by decide : 1000 < sizeLine)
          rw [List.length_take]
          omega
        have step : toldOf (ru.told.take (i + 1)) kept given = toldOf (ru.told.take i) kept given ++ (if u = "+given" then [given] else if u ≠ "+kept" then [u] else if kept ≠ "" then [kept] else []) := by
          unfold toldOf
          rw [List.take_add_one, hu]
          simp
        have add : ∀ z : Str, toldOf (ru.told.take (i + 1)) kept given = toldOf (ru.told.take i) kept given ++ [z] →
            Same H1 (upd H' D (.lst ((toldOf (ru.told.take i) kept given).map V.str ++ [V.str z]))) ∧ (upd H' D (.lst ((toldOf (ru.told.take i) kept given).map V.str ++ [V.str z]))) D = some (.lst ((toldOf (ru.told.take (i + 1)) kept given).map .str)) := by
          intro z e
          refine ⟨fun b o' eb => ?_, ?_⟩
          · rw [upd_ne (ne_of_none eb hD)]
            exact sH _ _ eb
          · rw [upd_same, e, List.map_append]
            rfl
        refine ⟨_, rfl, rfl, _, rfl, ?_⟩
        refine ite2 (fun eg => ?_) (fun eg => ?_)
        · have eu : u = "+given" := V.str.inj (of_decide_eq_true eg)
          rw [if_pos eu] at step
          exact ⟨_, rfl, .inl ⟨rfl, _, SqL.of aD⟩, _, rfl, D, _, _, rfl, rfl, aD, lz, _, rfl, add _ step⟩
        · have nu : ¬ u = "+given" := fun z => eg (decide_eq_true (by rw [z]))
          rw [if_neg nu] at step
          refine ⟨_, rfl, rfl, _, rfl, ?_⟩
          refine ite2 (fun ek => ?_) (fun ek => ?_)
          · have nk : u ≠ "+kept" := fun z => by rw [z] at ek; exact absurd ek (by decide +kernel)
            rw [if_pos nk] at step
            exact ⟨_, rfl, .inl ⟨rfl, _, SqL.of aD⟩, _, rfl, D, _, _, rfl, rfl, aD, lz, _, rfl, add _ step⟩
          · have uk : u = "+kept" := Classical.byContradiction fun z => ek (by simp [z])
            rw [if_neg (fun z => z uk)] at step
            refine ⟨_, rfl, rfl, _, rfl, ?_⟩
            refine ite2 (fun ek2 => ?_) (fun ek2 => ?_)
            · have nk : kept ≠ "" := fun z => by rw [z] at ek2; exact absurd ek2 (by decide +kernel)
              rw [if_pos nk] at step
              exact ⟨_, rfl, .inl ⟨rfl, _, SqL.of aD⟩, _, rfl, D, _, _, rfl, rfl, aD, lz, _, rfl, add _ step⟩
            · have nk : kept = "" := Classical.byContradiction fun z => ek2 (by simp [z])
              rw [if_neg (fun z => z nk), List.append_nil] at step
              exact ⟨_, rfl, sH, by rw [step]; exact aD⟩
      · rintro σ H' ⟨o, rfl, sH, aD⟩
        rw [List.length_map, List.take_length] at aD
        have fin : ∀ v, (v = V.str (if ru.keeps = true then given else kept)) → ∀ t, H' t = none → Q (.ref t) (upd H' t (.tup [.int ru.later, v, .ref D])) := by
          rintro _ rfl t ht
          have st := same_upd (o := .tup [.int ru.later, V.str (if ru.keeps = true then given else kept), .ref D]) ht
          exact k _ _ ((s1.trans sH).trans st) ⟨t, _, rfl, upd_same, _, _, rfl, rfl, _, _, rfl, rfl, _, _, rfl, ⟨D, _, rfl, st _ _ aD, RepAll.of_strs _⟩, rfl⟩ ⟨t, D, _, _, _, rfl, upd_same, st _ _ aD, s1.free hD, (s1.trans sH).free ht⟩
        refine ⟨_, rfl, p, _, 3, _, rfl, rfl, SqT.of (sH _ _ hp), rfl, _, rfl, p, _, 4, _, rfl, rfl, SqT.of (sH _ _ hp), rfl, _, rfl, ?_⟩
        refine ite2 (fun e => ?_) (fun e => ?_)
        · exact ⟨_, rfl, _, rfl, by show 3 ≤ sizeLine; decide, fin _ (by rw [if_pos e])⟩
        · exact ⟨_, rfl, _, rfl, by show 3 ≤ sizeLine; decide, fin _ (by rw [if_neg e])⟩
end
end K

set_option Elab.async false
set_option linter.all false
set_option maxRecDepth 100000
set_option maxHeartbeats 8000000
namespace K
open PySem PySem.Spec PyProof.Rows L2 G D L S C Sx Kx Ex Lt
open Fz hiding Fr
open C8 (pss_cut tCut)
open PySem.W (dataLt alike AllAlike Sortable)
/-- the law's own gate, its rules at r -/
abbrev lgd (n : Int) (d c r : Addr) : List (Key × V) := [(.inr "states", .int n), (.inr "doors", .ref d), (.inr "closet", .ref c), (.inr "rules", .ref r)]
theorem lg_states (n : Int) (d c r : Addr) : valV (lgd n d c r) (.inr "states") = some (.int n) := rfl
theorem lg_doors (n : Int) (d c r : Addr) : valV (lgd n d c r) (.inr "doors") = some (.ref d) := rfl
theorem lg_closet (n : Int) (d c r : Addr) : valV (lgd n d c r) (.inr "closet") = some (.ref c) := rfl
theorem lg_rules (n : Int) (d c r : Addr) : valV (lgd n d c r) (.inr "rules") = some (.ref r) := rfl
structure LG (F : Hp) (g : Addr) (n : Int) (ds cs : List Str) (r : Addr) : Prop where
  ex : ∃ d c, F g = some (.dK (lgd n d c r)) ∧ F d = some (.lst (ds.map .str)) ∧ F c = some (.lst (cs.map .str))
theorem LG.mono {F F' : Hp} {g : Addr} {n : Int} {ds cs : List Str} {r : Addr} (h : LG F g n ds cs r) (s : Same F F') : LG F' g n ds cs r := by
  obtain ⟨d, c, h1, h2, h3⟩ := h.ex
  exact ⟨d, c, s _ _ h1, s _ _ h2, s _ _ h3⟩
theorem dg {H : Hp} {g : Addr} {kvs : List (Key × V)} {x : Str} {v : V} (h : H g = some (.dK kvs)) (e : valV kvs (.inr x) = some v) : DGet H g (.str x) (some v) := .inl ⟨kvs, .inr x, .inl h, rfl, e.symm⟩
def Rl.keyD (r : Rl) : Dat := .tup [.str r.door, .int r.state, .str r.kind]
def Rl.restD (r : Rl) : Dat := .tup [.int r.later, .bl r.keeps, .tup (r.told.map .str)]
/-- a rule is drawn -/
def spDrawnRule (K : PySem.W.Frag) : Sp := fun vs H Q _ => ∃ (b g ra : Addr) (ck : Bool) (F : Hp) (n : Int) (ds cs : List Str), vs = [.ref b, .ref g, .bl ck] ∧ Fz.Fr F H b ∧ LG F g n ds cs ra ∧ 1 ≤ n ∧ n ≤ 64 ∧ Names ds ∧ Names cs ∧ ds ≠ [] ∧ cs.length ≤ 16 ∧
  ∀ (v : V) (r : Rl) (F' H' : Hp), Go b F H F' H' → Rep K F' v (.tup [r.keyD, r.restD]) → r.Ok n ds cs → r.told.length ≤ 3 → Q v H'
theorem mem_strs {ws : List Str} {v : V} (h : v ∈ ws.map V.str) : ∃ w ∈ ws, v = .str w := by
  obtain ⟨w, hw, e⟩ := List.mem_map.mp h
  exact ⟨w, hw, e.symm⟩
section
variable {P : Program} {w : World} {K : PySem.W.Frag} {mg : Str → Option Value} {base : Heap}
abbrev s_law_drawn_rule : Stmt := top 20
theorem sc_law_drawn_rule : FnScope ["bag", "gate", "can_keep", "kind", "menu", "some", "k", "keeps", "state", "later"] ["bag", "gate", "can_keep"] (defScope s_law_drawn_rule) := ⟨rfl, rfl, rfl, by decide +kernel, rfl, by decide +kernel, by decide +kernel⟩
theorem ok_drawn_rule {f : Addr} {fd : FuncData} (F : Fun K "_law_drawn_rule" "_law_drawn_rule" s_law_drawn_rule f fd) (T : Bl mg)
    (D_law_take : Def P w K mg base 2 "_law_take" ["bag", "many"] spTake) (D_law_one : Def P w K mg base 3 "_law_one" ["bag", "things"] spOne) :
    Fn P w K mg base CX0 4 f fd ["bag", "gate", "can_keep"] (spDrawnRule K) := by
  refine fn_calm F sc_law_drawn_rule (fun vs H Q E h => ?_) (fun cdv A outer s H vs Q E hc hr h => ?_)
  · obtain ⟨b, g, ra, ck, F, n, ds, cs, rfl, _⟩ := h
    rfl
  · obtain ⟨b, g, ra, ck, F0, n, ds, cs, rfl, fr, lg, n1, n64, nd, nc, dn, lc, k⟩ := h
    have hu := hu_of hr
    obtain ⟨d, c, hg, hd, hC⟩ := lg.ex
    refine ⟨_, (pss_cons (ps_set (i := 3) sc_law_drawn_rule.nd rfl (Or.inl rfl) (pe_def D_law_one hc (hr.mono (by decide)) (pa_cons (pv 0) (pa_cons (pe_op op_cat (pe_lit (d := .lst [.str "", .str "", .str "?", .str "?"]) 9 (by rfl) (by rfl)) (pe_dget hu (pv 1) pe_str (fun _ _ => rfl))) pa_nil))))
 (pss_cut (ps_set (i := 4) sc_law_drawn_rule.nd rfl (Or.inr rfl) (pe_op op_cat (pe_op op_cat (pe_dget hu (pv 1) pe_str (fun _ _ => rfl)) (pe_lit (d := .lst [.str "+kept"]) 9 (by rfl) (by rfl))) (pe_op op_rep (pe_op op_rep (pe_lit (d := .lst [.str "+given"]) 9 (by rfl) (by rfl)) (pe_callTy call_int1 (by rfl) T.intN (by decide +kernel) (pa_cons (pe_cmpR op_ne (pv 3) pe_str (nomark _)) pa_nil))) pe_int)))
 (pss_cons (ps_setLc (i := 5) (own := [("k", 6)]) (g := gName 6) (tt := tYes) rfl sc_law_drawn_rule.nd rfl rfl (sw_true rfl rfl rfl (by decide +kernel)) (pi_range1 rfl T.rangeN (pa_cons (pe_def D_law_one hc (hr.mono (by decide)) (pa_cons (pv 0) (pa_cons (pe_lit (d := .lst [.int 0, .int 1, .int 1, .int 2, .int 3]) 9 (by rfl) (by rfl)) pa_nil))) pa_nil)) (blkOk_by (N := ["bag", "gate", "can_keep", "kind", "menu", "some", "k", "keeps", "state", "later"]) (sc := defScope s_law_drawn_rule) (by decide +kernel)) (fun _ _ _ _ _ => (pg_name (i := 6) sc_law_drawn_rule.nd rfl (Or.inl rfl))) (fun _ _ _ _ _ => pts_nil) (fun _ _ _ _ _ => (pe_def D_law_one hc (hr.mono (by decide)) (pa_cons (pv 0) (pa_cons (pv 4) pa_nil)))))
 (pss_cut (ps_set (i := 7) sc_law_drawn_rule.nd rfl (Or.inl rfl) (pe_and (pe_cmpR op_ne (pv 3) pe_str (nomark _)) (pe_and (pv 2) (pe_one (pe_cmpR op_eq (pe_def D_law_take hc (hr.mono (by decide)) (pa_cons (pv 0) (pa_cons pe_int pa_nil))) pe_int (nomark _))))))
 (pss_cons (ps_set (i := 8) sc_law_drawn_rule.nd rfl (Or.inl rfl) (pe_def D_law_one hc (hr.mono (by decide)) (pa_cons (pv 0) (pa_cons (pe_lst (pa_cons pe_int (pa_cons (pe_def D_law_take hc (hr.mono (by decide)) (pa_cons (pv 0) (pa_cons (pe_dget hu (pv 1) pe_str (fun _ _ => rfl)) pa_nil))) pa_nil))) pa_nil))))
 (pss_cons (ps_set (i := 9) sc_law_drawn_rule.nd rfl (Or.inl rfl) (pe_def D_law_one hc (hr.mono (by decide)) (pa_cons (pv 0) (pa_cons (pe_lst (pa_cons (pe_op op_modN (pe_callTy call_int1 (by rfl) T.intN (by decide +kernel) (pa_cons (pe_op op_add (pv 8) pe_int) pa_nil)) (pe_dget hu (pv 1) pe_str (fun _ _ => rfl))) (pa_cons (pe_def D_law_take hc (hr.mono (by decide)) (pa_cons (pv 0) (pa_cons (pe_dget hu (pv 1) pe_str (fun _ _ => rfl)) pa_nil))) pa_nil))) pa_nil))))
 (pss_one (ps_ret (pe_tup (pa_cons (pe_tup (pa_cons (pe_def D_law_one hc (hr.mono (by decide)) (pa_cons (pv 0) (pa_cons (pe_dget hu (pv 1) pe_str (fun _ _ => rfl)) pa_nil))) (pa_cons (pv 8) (pa_cons (pv 3) pa_nil)))) (pa_cons (pe_tup (pa_cons (pv 9) (pa_cons (pv 7) (pa_cons (pe_callTy call_tuple_of (by rfl) T.tupleN (by decide +kernel) (pa_cons (pv 5) pa_nil)) pa_nil)))) pa_nil))))))))))), ?_⟩
    -- kind
    refine ⟨_, rfl, fun v1 N1 H1 m1 r1 => ?_⟩
    obtain ⟨F1, g1, s1, t1⟩ := (Go.refl fr).lit' m1
    obtain ⟨a1, x1, rfl, h1, hx1⟩ := Rep.mono t1 _ r1
    obtain rfl : x1 = ([("" : Str), "", "?", "?"] : List Str).map V.str := RepAll.strs (xs := ["", "", "?", "?"]) hx1
    refine ⟨_, rfl, g, _, rfl, dg (g1.same _ _ (s1 _ _ hg)) (lg_closet n d c ra), a1, c, _, _, rfl, rfl, g1.same _ _ h1, g1.same _ _ (s1 _ _ hC), ?_, fun p2 hp2 => ?_⟩
    · rw [List.length_map, List.length_map]
      exact Nat.le_trans (Nat.add_le_add_left lc 4) (by decide)
    rw [← List.map_append]
    obtain ⟨F2, g2, s2, at2⟩ := g1.put' (o := .lst ((([("" : Str), "", "?", "?"] : List Str) ++ cs).map V.str)) hp2
    refine ⟨b, p2, _, rfl, g2.bag, upd_same, g2.ne at2, by simp, ?_, fun kv H3 hk sb3 bt3 => ?_⟩
    · rw [List.length_map, List.length_append]
      exact Nat.lt_of_le_of_lt (Nat.add_le_add_left lc 4) (by decide)
    obtain ⟨kind, mk, rfl⟩ := mem_strs hk
    have kin : kind ∈ cs ++ (["", "?"] : List Str) := by
      rcases List.mem_append.mp mk with h | h
      · refine List.mem_append_right _ ?_
        simp only [List.mem_cons, List.not_mem_nil, or_false] at h ⊢
        rcases h with h | h | h | h <;> simp [h]
      · exact List.mem_append_left _ h
    have g3 := g2.took sb3 bt3
    have s02 := s1.trans s2
    -- menu
    refine ⟨fun σ H' => ∃ F' pm ms, σ = [some (.ref b), some (.ref g), some (.bl ck), some (.str kind), some (.ref pm), none, none, none, none, none] ∧ Go b F0 H F' H' ∧ Same F2 F' ∧ F' pm = some (.lst (ms.map V.str)) ∧ ms ≠ [] ∧ ms.length ≤ 100 ∧
      (∀ w ∈ ms, w ∈ cs ++ (["+kept", "+given"] : List Str)) ∧ (kind = "" → ∀ w ∈ ms, w ∈ cs ++ (["+kept"] : List Str)), ?_, ?_⟩
    · refine ⟨_, rfl, g, _, rfl, dg (g3.same _ _ (s02 _ _ hg)) (lg_closet n d c ra), fun v4 N4 H4 m4 r4 => ?_⟩
      obtain ⟨F4, g4, s4, t4⟩ := g3.lit' m4
      obtain ⟨a4, x4, rfl, h4, hx4⟩ := Rep.mono t4 _ r4
      obtain rfl : x4 = (["+kept"] : List Str).map V.str := RepAll.strs (xs := ["+kept"]) hx4
      refine ⟨c, a4, _, _, rfl, rfl, g4.same _ _ (s4 _ _ (s02 _ _ hC)), g4.same _ _ h4, ?_, fun p5 hp5 => ?_⟩
      · rw [List.length_map, List.length_map]
        exact Nat.le_trans (Nat.add_le_add_right lc 1) (by decide)
      rw [← List.map_append]
      obtain ⟨F5, g5, s5, at5⟩ := g4.put' (o := .lst ((cs ++ (["+kept"] : List Str)).map V.str)) hp5
      intro v6 N6 H6 m6 r6
      obtain ⟨F6, g6, s6, t6⟩ := g5.lit' m6
      obtain ⟨a6, x6, rfl, h6, hx6⟩ := Rep.mono t6 _ r6
      obtain rfl : x6 = (["+given"] : List Str).map V.str := RepAll.strs (xs := ["+given"]) hx6
      have fin : ∀ (rest : List Str) (F8 H8 : Hp) (p8 : Addr), (∀ w ∈ rest, w = "+given") → rest.length ≤ 2 → (kind = "" → rest = []) → Go b F0 H F8 H8 → Same F6 F8 → F8 p8 = some (.lst (rest.map V.str)) →
          rCat (.ref p5) (.ref p8) H8 fun x H' => ∃ F' pm ms, ([some (.ref b), some (.ref g), some (.bl ck), some (.str kind), some x, none, none, none, none, none] : L2.St) = [some (.ref b), some (.ref g), some (.bl ck), some (.str kind), some (.ref pm), none, none, none, none, none] ∧
            Go b F0 H F' H' ∧ Same F2 F' ∧ F' pm = some (.lst (ms.map V.str)) ∧ ms ≠ [] ∧ ms.length ≤ 100 ∧ (∀ w ∈ ms, w ∈ cs ++ (["+kept", "+given"] : List Str)) ∧ (kind = "" → ∀ w ∈ ms, w ∈ cs ++ (["+kept"] : List Str)) := by
        intro rest F8 H8 p8 hr1 hl1 he1 g8 s8 at8
        refine ⟨p5, p8, _, _, rfl, rfl, g8.same _ _ (s8 _ _ (s6 _ _ at5)), g8.same _ _ at8, ?_, fun p9 hp9 => ?_⟩
        · rw [List.length_map, List.length_map, List.length_append]
          exact Nat.le_trans (Nat.add_le_add (Nat.add_le_add_right lc 1) hl1) (by decide)
        rw [← List.map_append]
        obtain ⟨F9, g9, s9, at9⟩ := g8.put' (o := .lst (((cs ++ (["+kept"] : List Str)) ++ rest).map V.str)) hp9
        refine ⟨F9, p9, _, rfl, g9, ((s4.trans s5).trans s6).trans (s8.trans s9), at9, by simp, ?_, fun w hw => ?_, fun e w hw => ?_⟩
        · rw [List.length_append, List.length_append]
          have : (["+kept"] : List Str).length = 1 := rfl
          omega
        · rcases List.mem_append.mp hw with hw | hw
          · rcases List.mem_append.mp hw with hw | hw
            · exact List.mem_append_left _ hw
            · rw [List.mem_singleton] at hw
              subst hw
              exact List.mem_append_right _ (by simp)
          · rw [hr1 w hw]
            exact List.mem_append_right _ (by simp)
        · rw [he1 e, List.append_nil] at hw
          exact hw
      refine ⟨_, rfl, rfl, .inr ⟨_, rfl, ?_⟩⟩
      by_cases ek : kind = ""
      · have e0 : (if (!decide (V.str kind = V.str "")) = true then (1 : Int) else 0) = 0 := by rw [ek]; rfl
        refine ⟨a6, 0, _, rfl, congrArg V.int e0, g6.same _ _ h6, by decide, by decide, by decide, fun p7 hp7 => ?_⟩
        obtain ⟨F7, g7, s7, at7⟩ := g6.put' (o := .lst (List.replicate (0 : Int).toNat ((["+given"] : List Str).map V.str)).flatten) hp7
        refine ⟨p7, 2, _, rfl, rfl, upd_same, by decide, by decide, by decide, fun p8 hp8 => ?_⟩
        obtain ⟨F8, g8, s8, at8⟩ := g7.put' (o := .lst (List.replicate (2 : Int).toNat (List.replicate (0 : Int).toNat ((["+given"] : List Str).map V.str)).flatten).flatten) hp8
        exact fin [] F8 _ p8 (fun _ h => nomatch h) (by decide) (fun _ => rfl) g8 (s7.trans s8) at8
      · have e0 : (if (!decide (V.str kind = V.str "")) = true then (1 : Int) else 0) = 1 := by
          rw [decide_eq_false (fun z => ek (V.str.inj z))]
          rfl
        refine ⟨a6, 1, _, rfl, congrArg V.int e0, g6.same _ _ h6, by decide, by decide, by decide, fun p7 hp7 => ?_⟩
        obtain ⟨F7, g7, s7, at7⟩ := g6.put' (o := .lst (List.replicate (1 : Int).toNat ((["+given"] : List Str).map V.str)).flatten) hp7
        refine ⟨p7, 2, _, rfl, rfl, upd_same, by decide, by decide, by decide, fun p8 hp8 => ?_⟩
        obtain ⟨F8, g8, s8, at8⟩ := g7.put' (o := .lst (List.replicate (2 : Int).toNat (List.replicate (1 : Int).toNat ((["+given"] : List Str).map V.str)).flatten).flatten) hp8
        exact fin ["+given", "+given"] F8 _ p8 (fun w h => by simpa using h) (by decide) (fun z => absurd z ek) g8 (s7.trans s8) at8
    · rintro σ H4 ⟨F4, pm, ms, rfl, g4, s4, atm, mne, ml, min1, min0⟩
      have s04 := s02.trans s4
      refine ⟨_, rfl, fun v5 N5 H5 m5 r5 => ?_⟩
      obtain ⟨F5, g5, s5, t5⟩ := g4.lit' m5
      obtain ⟨a5, x5, rfl, h5, hx5⟩ := Rep.mono t5 _ r5
      have l5 := hx5.length
      refine ⟨b, a5, x5, rfl, g5.bag, g5.same _ _ h5, g5.ne h5, fun z => (by rw [z] at l5; cases l5), by rw [l5]; decide, fun iv H6 hi sb6 bt6 => ?_⟩
      obtain ⟨di, hdi, rdi⟩ := rep_mem hx5 hi
      have g6 := g5.took sb6 bt6
      have ei : ∃ i, di = .int i ∧ 0 ≤ i ∧ i ≤ 3 := by
        simp only [List.mem_cons, List.not_mem_nil, or_false] at hdi
        rcases hdi with rfl | rfl | rfl | rfl | rfl <;> exact ⟨_, rfl, by decide, by decide⟩
      obtain ⟨i, rfl, i0, i3⟩ := ei
      obtain rfl : iv = .int i := rdi
      refine ⟨i, rfl, by omega, by omega, fun D hD => ?_⟩
      refine lc_drawS (K := K) (F := F5) (b := b) (fun d => ∃ w, d = .str w ∧ w ∈ ms) (Nat.lt_of_le_of_lt (by omega : i.toNat ≤ 3) (by decide)) hD g6.fr ?_ ?_
      · intro j F' H' Kt f' sF kt
        refine ⟨rfl, _, rfl, _, rfl, b, pm, _, rfl, f'.bag, f'.same _ _ (sF _ _ (s5 _ _ atm)), f'.ne (sF _ _ (s5 _ _ atm)), by simpa using mne, by rw [List.length_map]; omega, fun v H2 hv sb bt => ?_⟩
        obtain ⟨w0, hw0, rfl⟩ := mem_strs hv
        exact kt _ (.str w0) F' H2 ((Go.refl f').took sb bt) rfl ⟨w0, rfl, hw0⟩
      intro F7 H7 xs7 ds7 go7 hD7 fD7 nDb hxs7 hl7 hg7
      have g7 := g6.trans go7
      have s07 := s04.trans (s5.trans go7.up)
      obtain ⟨told, rfl, ht7⟩ : ∃ told : List Str, ds7 = told.map .str ∧ ∀ w ∈ told, w ∈ ms := by
        refine ⟨ds7.map strOf, ?_, ?_⟩
        · rw [List.map_map, List.map_congr_left (g := id), List.map_id]
          intro e he
          obtain ⟨w, rfl, _⟩ := hg7 e he
          rfl
        · intro w hw
          obtain ⟨e, he, rfl⟩ := List.mem_map.mp hw
          obtain ⟨w, rfl, h⟩ := hg7 e he
          exact h
      obtain rfl := RepAll.strs hxs7
      rw [List.length_map] at hl7
      -- keeps
      refine ⟨fun σ H' => ∃ (kp : Bool), σ = [some (.ref b), some (.ref g), some (.bl ck), some (.str kind), some (.ref pm), some (.ref D), none, some (.bl kp), none, none] ∧ Go b F7 H7 F7 H' ∧ (kind = "" → kp = false), ?_, ?_⟩
      · refine ⟨_, rfl, rfl, _, rfl, ?_⟩
        refine ite2 (fun e1 => ?_) (fun e1 => ?_)
        · have nk : kind ≠ "" := fun z => by rw [z] at e1; exact absurd e1 (by decide +kernel)
          refine ⟨_, rfl, _, rfl, ?_⟩
          refine ite2 (fun e2 => ?_) (fun e2 => ?_)
          · exact ⟨_, rfl, b, 2, rfl, g7.bag, by decide, by decide, fun q H' _ _ sb bt => ⟨rfl, _, rfl, (Go.refl g7.fr).took sb bt, fun z => absurd z nk⟩⟩
          · exact ⟨_, rfl, Go.refl g7.fr, fun z => absurd z nk⟩
        · exact ⟨_, rfl, Go.refl g7.fr, fun _ => rfl⟩
      · rintro σ H8 ⟨kp, rfl, g8, hkp⟩
        have hD8 := g8.but _ _ nDb hD7
        -- state
        refine ⟨_, rfl, _, rfl, _, rfl, g, _, rfl, dg (g8.same _ _ (s07 _ _ hg)) (lg_states n d c ra), b, n, rfl, g8.bag, by omega, by omega, fun q H9 q0 qn sb9 bt9 => ?_⟩
        have g9 := g8.took sb9 bt9
        refine ⟨by show 2 ≤ sizeLine; decide, fun pa hpa => ?_⟩
        obtain ⟨Fa, ga, sa, ata⟩ := g9.put' (o := .lst [.int 0, .int q]) hpa
        refine ⟨b, pa, _, rfl, ga.bag, upd_same, ga.ne ata, by simp, (show 2 < 1000000 by decide), fun sv Hb hsv sbb btb => ?_⟩
        have gb := ga.took sbb btb
        obtain ⟨st, rfl, st0, stn⟩ : ∃ st, sv = .int st ∧ 0 ≤ st ∧ st < n := by
          simp only [List.mem_cons, List.not_mem_nil, or_false] at hsv
          rcases hsv with rfl | rfl
          · exact ⟨_, rfl, by omega, by omega⟩
          · exact ⟨_, rfl, q0, qn⟩
        have s0b := s07.trans sa
        -- later
        refine ⟨_, rfl, _, rfl, _, _, rfl, rfl, .inl ⟨_, rfl, _, rfl, g, _, rfl, dg (gb.same _ _ (s0b _ _ hg)) (lg_states n d c ra), _, _, rfl, rfl, by omega, ?_⟩⟩
        refine ⟨_, rfl, _, rfl, g, _, rfl, dg (gb.same _ _ (s0b _ _ hg)) (lg_states n d c ra), b, n, rfl, gb.bag, by omega, by omega, fun q2 Hc q20 q2n sbc btc => ?_⟩
        have gc := gb.took sbc btc
        refine ⟨by show 2 ≤ sizeLine; decide, fun pd hpd => ?_⟩
        obtain ⟨Fd, gd, sd, atd⟩ := gc.put' (o := .lst [.int ((st + 1).fmod n), .int q2]) hpd
        refine ⟨b, pd, _, rfl, gd.bag, upd_same, gd.ne atd, by simp, (show 2 < 1000000 by decide), fun lv He hlv sbe bte => ?_⟩
        have ge := gd.took sbe bte
        obtain ⟨la, rfl, la0, lan⟩ : ∃ la, lv = .int la ∧ 0 ≤ la ∧ la < n := by
          simp only [List.mem_cons, List.not_mem_nil, or_false] at hlv
          rcases hlv with rfl | rfl
          · exact ⟨_, rfl, Int.fmod_nonneg_of_pos _ (by omega), Int.fmod_lt_of_pos _ (by omega)⟩
          · exact ⟨_, rfl, q20, q2n⟩
        have s0e := s0b.trans sd
        -- the door
        refine ⟨_, rfl, _, rfl, g, _, rfl, dg (ge.same _ _ (s0e _ _ hg)) (lg_doors n d c ra), b, d, _, rfl, ge.bag, ge.same _ _ (s0e _ _ hd), ge.ne (s0e _ _ hd), by simpa using dn, by rw [List.length_map]; exact Nat.lt_of_le_of_lt nd.len (by decide), fun dv Hf hdv sbf btf => ?_⟩
        obtain ⟨door, hdoor, rfl⟩ := mem_strs hdv
        have gf := ge.took sbf btf
        refine ⟨_, rfl, _, rfl, by show 3 ≤ sizeLine; decide, fun ph hph => ?_⟩
        obtain ⟨Fh, gh, sh, ath⟩ := gf.put' (o := .tup [.str door, .int st, .str kind]) hph
        have hDh := gh.but _ _ nDb hD7
        refine ⟨_, rfl, _, rfl, _, rfl, D, _, rfl, .inl ⟨SqL.of hDh, fun pi hpi => ?_⟩⟩
        obtain ⟨Fi, gi, si, ati⟩ := gh.put' (o := .tup (told.map V.str)) hpi
        refine ⟨by show 3 ≤ sizeLine; decide, fun pj hpj => ?_⟩
        obtain ⟨Fj, gj, sj, atj⟩ := gi.put' (o := .tup [.int la, .bl kp, .ref pi]) hpj
        refine ⟨by show 2 ≤ sizeLine; decide, fun pk hpk => ?_⟩
        obtain ⟨Fk, gk, sk, atk⟩ := gj.put' (o := .tup [.ref ph, .ref pj]) hpk
        refine k (.ref pk) ⟨door, st, kind, la, kp, told⟩ Fk _ (g7.trans gk) ?_ ⟨hdoor, st0, stn, kin, la0, lan, fun e => ⟨hkp e, fun w hw => min0 e w (ht7 w hw)⟩, fun w hw => min1 w (ht7 w hw), ?_⟩ ?_
        · exact ⟨pk, _, rfl, atk, _, _, rfl, ⟨ph, _, rfl, ((si.trans sj).trans sk) _ _ ath, _, _, rfl, rfl, _, _, rfl, rfl, _, _, rfl, rfl, rfl⟩,
            _, _, rfl, ⟨pj, _, rfl, sk _ _ atj, _, _, rfl, rfl, _, _, rfl, rfl, _, _, rfl, ⟨pi, _, rfl, (sj.trans sk) _ _ ati, RepAll.of_strs _⟩, rfl⟩, rfl⟩
        · show told.length ≤ 1000
          omega
        · show told.length ≤ 3
          omega
end
end K

set_option Elab.async false
set_option linter.all false
set_option maxRecDepth 100000
set_option maxHeartbeats 8000000
namespace K
open PySem PySem.Spec PyProof.Rows L2 G D L S C Sx Kx Ex Lt
open Fz hiding Fr
open C8 (pss_cut tCut)
open PySem.W (dataLt alike AllAlike Sortable)
/-- the rules that a dict of the law holds -/
structure LR (K : PySem.W.Frag) (F : Hp) (kvs : List (List Key × V)) (rs : List Rl) : Prop where
  ks : kvs.map (·.1) = rs.map Rl.key
  vs : RepAll K F (kvs.map (·.2)) (rs.map Rl.restD)
theorem LR.mono {K : PySem.W.Frag} {F F' : Hp} {kvs : List (List Key × V)} {rs : List Rl} (h : LR K F kvs rs) (s : Same F F') : LR K F' kvs rs := ⟨h.ks, RepAll.mono s _ h.vs⟩
/-- a rule put in, in the place of the one of its key or behind all -/
def putR (rs : List Rl) (ru : Rl) : List Rl := if (rs.any fun r => decide (r.key = ru.key)) = true then rs.map (fun r => if r.key = ru.key then ru else r) else rs ++ [ru]
theorem lr_map {K : PySem.W.Frag} {F : Hp} {ru : Rl} {v : V} (rv : Rep K F v ru.restD) : ∀ {rs : List Rl} {kvs : List (List Key × V)}, LR K F kvs rs →
    LR K F (kvs.map fun kv => if kv.1 = ru.key then (kv.1, v) else kv) (rs.map fun r => if r.key = ru.key then ru else r) ∧ (kvs.any fun kv => decide (kv.1 = ru.key)) = rs.any fun r => decide (r.key = ru.key)
  | [], kvs, h => by
    rw [List.map_eq_nil_iff.mp h.ks]
    exact ⟨⟨rfl, rfl⟩, rfl⟩
  | r :: rs, kvs, h => by
    match kvs, h with
    | (k1, v1) :: kvs, h =>
      have e := h.ks
      rw [List.map_cons, List.map_cons] at e
      injection e with e1 e2
      have e1 : k1 = r.key := e1
      obtain ⟨w, t, e3, hv, ht⟩ := h.vs
      rw [List.map_cons] at e3
      injection e3 with e4 e5
      have e4 : v1 = w := e4
      subst e4 e1
      obtain ⟨⟨i1, i2⟩, i3⟩ := lr_map rv (rs := rs) (kvs := kvs) ⟨e2, by rw [e5]; exact ht⟩
      refine ⟨⟨?_, ?_⟩, ?_⟩
      · rw [List.map_cons, List.map_cons, List.map_cons, List.map_cons, i1]
        by_cases q : r.key = ru.key
        · simp [q]
        · simp [q]
      · rw [List.map_cons, List.map_cons, List.map_cons, List.map_cons]
        by_cases q : r.key = ru.key
        · refine ⟨v, _, by simp only [if_pos q], ?_, i2⟩
          simp only [if_pos q]
          exact rv
        · refine ⟨v1, _, by simp only [if_neg q], ?_, i2⟩
          simp only [if_neg q]
          exact hv
      · rw [List.any_cons, List.any_cons, i3]
theorem lr_put {K : PySem.W.Frag} {F : Hp} {ru : Rl} {v : V} (rv : Rep K F v ru.restD) {rs : List Rl} {kvs : List (List Key × V)} (h : LR K F kvs rs) (nd : (rs.map Rl.key).Nodup) :
    LR K F (putK kvs ru.key v) (putR rs ru) ∧ ((putR rs ru).map Rl.key).Nodup ∧ (∀ r ∈ putR rs ru, r ∈ rs ∨ r = ru) ∧ (putR rs ru).length ≤ rs.length + 1 ∧ putR rs ru ≠ [] := by
  obtain ⟨m, e⟩ := lr_map rv h
  unfold putK putR
  rw [e]
  by_cases q : (rs.any fun r => decide (r.key = ru.key)) = true
  · rw [if_pos q, if_pos q]
    refine ⟨m, ?_, fun r hr => ?_, by rw [List.length_map]; omega, fun z => ?_⟩
    · have : (rs.map fun r => if r.key = ru.key then ru else r).map Rl.key = rs.map Rl.key := by
        rw [List.map_map]
        refine List.map_congr_left fun r _ => ?_
        show (if r.key = ru.key then ru else r).key = r.key
        by_cases z : r.key = ru.key
        · rw [if_pos z, z]
        · rw [if_neg z]
      rw [this]
      exact nd
    · obtain ⟨r0, h0, rfl⟩ := List.mem_map.mp hr
      by_cases z : r0.key = ru.key
      · rw [if_pos z]
        exact .inr rfl
      · rw [if_neg z]
        exact .inl h0
    · rw [List.map_eq_nil_iff.mp z] at q
      cases q
  · rw [if_neg q, if_neg q]
    refine ⟨⟨?_, ?_⟩, ?_, fun r hr => ?_, by rw [List.length_append]; exact Nat.le_refl _, by simp⟩
    · rw [List.map_append, List.map_append, h.ks]
      rfl
    · rw [List.map_append, List.map_append]
      exact RepAll.append h.vs (.one rv)
    · rw [List.map_append, List.nodup_append]
      refine ⟨nd, by simp, fun a ha b hb => ?_⟩
      rw [List.map_cons, List.map_nil, List.mem_singleton] at hb
      subst hb
      rintro rfl
      obtain ⟨r0, h0, e0⟩ := List.mem_map.mp ha
      exact q (List.any_eq_true.mpr ⟨r0, h0, decide_eq_true e0⟩)
    · rcases List.mem_append.mp hr with hr | hr
      · exact .inl hr
      · rw [List.mem_singleton] at hr
        exact .inr hr
/-- a dict of one's own, beside the frozen part -/
structure OwnT (b D : Addr) (F0 H0 F H : Hp) (kvs : List (List Key × V)) : Prop where
  go : Go b F0 H0 F H
  z0 : H0 D = none
  fD : F D = none
  nD : D ≠ b
  at1 : H D = some (.dT kvs)
theorem OwnT.on {b D : Addr} {F0 H0 F H F1 H1 : Hp} {kvs : List (List Key × V)} (a : OwnT b D F0 H0 F H kvs) (g : Go b F H F1 H1) : OwnT b D F0 H0 F1 H1 kvs :=
  ⟨a.go.trans g, a.z0, g.outside a.fD a.at1, a.nD, g.but _ _ a.nD a.at1⟩
theorem OwnT.set {b D : Addr} {F0 H0 F H : Hp} {kvs : List (List Key × V)} (a : OwnT b D F0 H0 F H kvs) (us : List (List Key × V)) : OwnT b D F0 H0 F (upd H D (.dT us)) us :=
  ⟨a.go.write a.z0 a.fD a.nD, a.z0, a.fD, a.nD, upd_same⟩
theorem OwnT.end {b D : Addr} {F0 H0 F H : Hp} {kvs : List (List Key × V)} (a : OwnT b D F0 H0 F H kvs) : Go b F0 H0 (upd F D (.dT kvs)) H ∧ Same F (upd F D (.dT kvs)) :=
  ⟨a.go.freeze a.z0 a.fD a.nD a.at1, same_upd a.fD⟩
theorem _root_.Fz.Go.fresh0 {b D : Addr} {F0 H0 F H : Hp} (a : Go b F0 H0 F H) (hD : H D = none) : H0 D = none ∧ D ≠ b ∧ F D = none := by
  have nD : D ≠ b := fun e => by
    obtain ⟨o, z⟩ := a.fr.some
    rw [e, z] at hD
    cases hD
  refine ⟨?_, nD, a.same.free hD⟩
  cases q : H0 D with
  | none => rfl
  | some u =>
    rw [a.but _ _ nD q] at hD
    cases hD
/-- the law's gate is drawn -/
def spDrawnGate (K : PySem.W.Frag) : Sp := fun vs H Q _ => ∃ (b : Addr) (n : Int) (v2 v3 : V) (ck : Bool) (F : Hp) (ds cs : List Str), vs = [.ref b, .int n, v2, v3, .bl ck] ∧ Fz.Fr F H b ∧ Rep K F v2 (.lst (ds.map .str)) ∧ Rep K F v3 (.lst (cs.map .str)) ∧
  1 ≤ n ∧ n ≤ 64 ∧ Names ds ∧ Names cs ∧ ds ≠ [] ∧ cs.length ≤ 16 ∧
  ∀ (g r : Addr) (kvs : List (List Key × V)) (rs : List Rl) (us ws : List Str) (F' H' : Hp), OwnT b r F H F' H' kvs → LG F' g n us ws r → us.Perm ds → ws.Perm cs → LR K F' kvs rs → (rs.map Rl.key).Nodup → rs.length ≤ 7 →
    (∀ ru ∈ rs, ru.Ok n us ws ∧ ru.told.length ≤ 3) → Q (.ref g) H'
section
variable {P : Program} {w : World} {K : PySem.W.Frag} {mg : Str → Option Value} {base : Heap}
abbrev s_law_drawn_gate : Stmt := top 21
theorem sc_law_drawn_gate : FnScope ["bag", "states", "doors", "closet", "can_keep", "gate", "k", "key", "rest"] ["bag", "states", "doors", "closet", "can_keep"] (defScope s_law_drawn_gate) := ⟨rfl, rfl, rfl, by decide +kernel, rfl, by decide +kernel, by decide +kernel⟩
theorem ok_drawn_gate {f : Addr} {fd : FuncData} (F : Fun K "_law_drawn_gate" "_law_drawn_gate" s_law_drawn_gate f fd) (T : Bl mg)
    (D_law_take : Def P w K mg base 2 "_law_take" ["bag", "many"] spTake) (D_law_drawn_rule : Def P w K mg base 4 "_law_drawn_rule" ["bag", "gate", "can_keep"] (spDrawnRule K)) :
    Fn P w K mg base CX0 5 f fd ["bag", "states", "doors", "closet", "can_keep"] (spDrawnGate K) := by
  refine fn_calm F sc_law_drawn_gate (fun vs H Q E h => ?_) (fun cdv A outer s H vs Q E hc hr h => ?_)
  · obtain ⟨b, n, v2, v3, ck, F, ds, cs, rfl, _⟩ := h
    rfl
  · obtain ⟨b, n, v2, v3, ck, F0, ds, cs, rfl, fr, ⟨p2, x2, rfl, hp2, hx2⟩, ⟨p3, x3, rfl, hp3, hx3⟩, n1, n64, nd, nc, dn, lc, k⟩ := h
    have hu := hu_of hr
    have hu64 := hr.units
    refine ⟨_, (pss_cons (ps_set (i := 5) sc_law_drawn_gate.nd rfl (Or.inl rfl) (pe_disp (pps_cons pe_str (pv 1) (pps_cons pe_str (pe_callB (call_sorted hu64) (by rfl) T.sortedN (by decide +kernel) (pa_cons (pv 2) pa_nil)) (pps_cons pe_str (pe_callB (call_sorted hu64) (by rfl) T.sortedN (by decide +kernel) (pa_cons (pv 3) pa_nil)) (pps_cons pe_str pe_dnewT pps_nil)))) (by rfl) (by rfl) (fun z => by cases z) (by decide)))
 (pss_cons (ps_for PassesOwn.never rfl (pi_range1 rfl T.rangeN (pa_cons (pe_op op_add (pe_op op_add pe_int (pe_def D_law_take hc (hr.mono (by decide)) (pa_cons (pv 0) (pa_cons pe_int pa_nil)))) (pe_def D_law_take hc (hr.mono (by decide)) (pa_cons (pv 0) (pa_cons pe_int pa_nil)))) pa_nil)) (pg_name (i := 6) sc_law_drawn_gate.nd rfl (Or.inl rfl))
  (pss_cons (ps_asg (pe_def D_law_drawn_rule hc (hr.mono (by decide)) (pa_cons (pv 0) (pa_cons (pv 5) (pa_cons (pv 4) pa_nil)))) (pg_tup (by rfl) (pgs_cons (pg_name (i := 7) sc_law_drawn_gate.nd rfl (Or.inl rfl)) (pgs_cons (pg_name (i := 8) sc_law_drawn_gate.nd rfl (Or.inl rfl)) pgs_nil))))
 (pss_one (ps_dput hu (pe_dget hu (pv 5) pe_str (fun _ _ => rfl)) (pv 7) (pv 8) rfl))))
 (pss_one (ps_ret (pv 5))))), ?_⟩
    intro g hg0
    have fr1 := fr.grow (same_upd (o := .dK []) hg0)
    have go1 := (Go.refl fr).grow (same_upd (o := .dK []) hg0)
    obtain ⟨_, ngb, fg0⟩ := (Go.refl fr).fresh0 hg0
    have agg : (upd H g (.dK [])) g = some (.dK []) := upd_same
    generalize upd H g (.dK []) = H1 at fr1 go1 agg
    have g1 := Go.refl fr1
    obtain ⟨us, eus, pus⟩ := sort_strs ds
    obtain ⟨ws, ews, pws⟩ := sort_strs cs
    refine ⟨_, rfl, _, rfl, p2, x2, ds.map .str, F0, rfl, g1.same _ _ hp2, g1.same, hx2, ord_strs ds, fun d ys hd0 ry _ => ?_⟩
    rw [eus] at ry
    obtain rfl := RepAll.strs ry
    obtain ⟨F2, g2, s2, at2⟩ := g1.put' (o := .lst (us.map .str)) hd0
    have ag2 := (same_upd (o := .lst (us.map V.str)) hd0) _ _ agg
    refine ⟨_, rfl, p3, x3, cs.map .str, F0, rfl, g2.same _ _ (s2 _ _ hp3), s2.trans g2.same, hx3, ord_strs cs, fun c zs hc0 rz _ => ?_⟩
    rw [ews] at rz
    obtain rfl := RepAll.strs rz
    obtain ⟨F3, g3, s3, at3⟩ := g2.put' (o := .lst (ws.map .str)) hc0
    have ag3 := (same_upd (o := .lst (ws.map V.str)) hc0) _ _ ag2
    intro r hr0
    obtain ⟨zr, nrb, fr3⟩ := (go1.trans g3).fresh0 hr0
    have g4 := g3.grow (same_upd (o := .dT []) hr0)
    have ag4 := (same_upd (o := .dT []) hr0) _ _ ag3
    have rg : r ≠ g := fun z => by rw [z, ag3] at hr0; cases hr0
    have ar4 : (upd (upd (upd H1 d (.lst (us.map V.str))) c (.lst (ws.map V.str))) r (.dT [])) r = some (.dT []) := upd_same
    generalize upd (upd (upd H1 d (.lst (us.map V.str))) c (.lst (ws.map V.str))) r (.dT []) = H4 at g4 ag4 ar4
    have fg3 : F3 g = none := g4.outside fg0 agg
    refine ⟨ag4, lgd n d c r, rfl, (show 4 ≤ 15 by decide), ?_⟩
    have g5 := (go1.trans g4).write (o := .dK (mergeK [] (lgd n d c r))) hg0 fg3 ngb
    have g6 := g5.freeze hg0 fg3 ngb (o := .dK (lgd n d c r)) upd_same
    have s6 : Same F3 (upd F3 g (.dK (lgd n d c r))) := same_upd fg3
    have lg6 : LG (upd F3 g (.dK (lgd n d c r))) g n us ws r := ⟨d, c, upd_same, s6 _ _ (s3 _ _ at2), s6 _ _ at3⟩
    have fr6 : (upd F3 g (.dK (lgd n d c r))) r = none := by rw [upd_ne rg]; exact fr3
    have ar6 : (upd H4 g (.dK (mergeK [] (lgd n d c r)))) r = some (.dT []) := by rw [upd_ne rg]; exact ar4
    have own6 : OwnT b r F0 H (upd F3 g (.dK (lgd n d c r))) (upd H4 g (.dK (mergeK [] (lgd n d c r)))) [] := ⟨g6, zr, fr6, nrb, ar6⟩
    generalize upd F3 g (.dK (lgd n d c r)) = F6 at own6 lg6
    generalize upd H4 g (.dK (mergeK [] (lgd n d c r))) = H6 at own6
    refine ⟨_, rfl, b, 4, rfl, own6.go.bag, by decide, by decide, fun k1 H7 a0 a1 sb7 bt7 => ?_⟩
    have own7 := own6.on ((Go.refl own6.go.fr).took sb7 bt7)
    refine ⟨_, _, rfl, rfl, _, rfl, b, 4, rfl, own7.go.bag, by decide, by decide, fun k2 H8 b0 b1 sb8 bt8 => ?_⟩
    have own8 := own7.on ((Go.refl own7.go.fr).took sb8 bt8)
    refine ⟨_, _, rfl, rfl, _, rfl, by omega, by omega, ?_⟩
    have nus : Names us := ⟨pus.nodup_iff.mpr nd.nd, fun w hw => nd.ok w (pus.mem_iff.mp hw), by rw [pus.length_eq]; exact nd.len⟩
    have nws : Names ws := ⟨pws.nodup_iff.mpr nc.nd, fun w hw => nc.ok w (pws.mem_iff.mp hw), by rw [pws.length_eq]; exact nc.len⟩
    have une : us ≠ [] := fun z => dn (List.length_eq_zero_iff.mp (by rw [← pus.length_eq, z]; rfl))
    have lws : ws.length ≤ 16 := by rw [pws.length_eq]; exact lc
    refine for_range (n := (1 + k1 + k2).toNat) (fun i σ H' => ∃ (F' : Hp) (kvs : List (List Key × V)) (rs : List Rl) (o6 o7 o8 : Option V), σ = [some (.ref b), some (.int n), some (.ref p2), some (.ref p3), some (.bl ck), some (.ref g), o6, o7, o8] ∧
      OwnT b r F0 H F' H' kvs ∧ Same F6 F' ∧ LR K F' kvs rs ∧ (rs.map Rl.key).Nodup ∧ rs.length ≤ i ∧ ∀ ru ∈ rs, ru.Ok n us ws ∧ ru.told.length ≤ 3)
      ⟨F6, [], [], none, none, none, rfl, own8, .refl _, ⟨rfl, rfl⟩, by simp, Nat.le_refl _, fun _ h => nomatch h⟩ ?_ ?_
    · rintro i σ H9 hi ⟨F9, kvs, rs, o6, o7, o8, rfl, own9, s9, lr, ndk, lrs, oks⟩
      refine ⟨_, rfl, _, rfl, _, rfl, b, g, r, ck, F9, n, us, ws, rfl, own9.go.fr, lg6.mono s9, n1, n64, nus, nws, une, lws, fun v ru F10 H10 g10 rv okr tl => ?_⟩
      obtain ⟨pk, _, rfl, hpk, v1, _, rfl, e1, v2, _, rfl, e2, rfl⟩ := rv
      have own10 := own9.on g10
      have hpk' := g10.same _ _ hpk
      obtain ⟨ph, _, rfl, hph, y1, _, rfl, q1, y2, _, rfl, q2, y3, _, rfl, q3, rfl⟩ := e1
      obtain rfl : y1 = .str ru.door := q1
      obtain rfl : y2 = .int ru.state := q2
      obtain rfl : y3 = .str ru.kind := q3
      obtain ⟨d', c', hg', _, _⟩ := (lg6.mono (s9.trans g10.up)).ex
      have lk : kvs.length ≤ 100 := by
        have := congrArg List.length lr.ks
        rw [List.length_map, List.length_map] at this
        omega
      obtain ⟨l1, l2, l3, l4, l5⟩ := lr_put e2 (lr.mono g10.up) ndk
      refine ⟨pk, _, rfl, SqT.of hpk', rfl, _, _, rfl, _, _, rfl, rfl, _, rfl, _, rfl, g, _, rfl, dg (g10.same _ _ hg') (lg_rules n d' c' r), _, rfl, r, _, rfl, .inr ⟨kvs, ru.key, ph, own10.at1, rfl, g10.same _ _ hph, Nat.lt_of_le_of_lt lk (by decide), rfl⟩,
        F10, putK kvs ru.key v2, putR rs ru, _, _, _, rfl, own10.set _, s9.trans g10.up, l1, l2, by omega, fun q hq => ?_⟩
      rcases l3 q hq with h | rfl
      · exact oks q h
      · exact ⟨okr, tl⟩
    · rintro σ H9 ⟨F9, kvs, rs, o6, o7, o8, rfl, own9, s9, lr, ndk, lrs, oks⟩
      exact ⟨_, rfl, k g r kvs rs us ws F9 H9 own9 (lg6.mono s9) pus pws lr ndk (by omega) oks⟩
end
end K

set_option Elab.async false
set_option linter.all false
set_option maxRecDepth 100000
set_option maxHeartbeats 4000000
/-! A comprehension that makes a new datum of each item. -/
namespace C
open PySem PySem.Spec PyProof.Rows L2 G D L S
section
variable {J : It} {n : Nat} {G : Hp → Prop} {Y : Nat → Hp → V → Hp → Prop} {K : PySem.W.Frag}
theorem lc_rep {α : Type} (w : Walk J n G Y) (xs : List α) (f : α → Dat) {g : TG} {te : TE} {vs : List Nat} {σ : L2.St} {H1 B : Hp} {D : Addr}
    {Qd : Hp → Prop} (hB : Same B H1) (hn : xs.length = n) (hz : n < sizeLine) (hD : H1 D = none) (hG : ∀ H, Same H1 H → G H)
    (turn : ∀ (i : Nat) (a : α) (x : V) (F H H' : Hp) (Kt : V → Hp → Prop), xs[i]? = some a → Same B F → Same F H → Same H1 H → Y i H x H' →
      (∀ v F4 H4, Same F F4 → Same F4 H4 → Same H H4 → (∀ y o, F4 y = some o → F y = some o ∨ H y = none) → Rep K F4 v (f a) → Kt v H4) →
      g x (wipe σ vs) H' fun σ2 H2 => wipe σ2 vs = wipe σ vs ∧ te σ2 H2 Kt)
    (done : ∀ F H ys, Same B F → Same F H → Same H1 H → (∀ y o, F y = some o → B y = some o ∨ H1 y = none) → F D = none → H D = some (.lst ys) → RepAll K F ys (xs.map f) → Qd H) :
    ∃ W : Nat → Nat → Hp → Prop, (∃ m, W 0 m (upd H1 D (.lst []))) ∧ ∀ i m H, W i m H →
      (J.stop i H ∧ Qd H) ∨ (J.go i H ∧ ∃ Nx : Hp → Prop, (∀ H', Nx H' → ∃ m', m' < m ∧ W (i + 1) m' H') ∧ ∀ x H', J.yld i H x H' →
        g x (wipe σ vs) H' fun σ2 H2 => wipe σ2 vs = wipe σ vs ∧ tYes σ2 H2 fun b H3 =>
          if b = true then te σ2 H3 fun y H4 => ∃ acc, H4 D = some (.lst acc) ∧ acc.length < sizeLine ∧ Nx (upd H4 D (.lst (acc ++ [y]))) else Nx H3) := by
  refine lc_it w (fun i H => ∃ F ys, Same B F ∧ Same F H ∧ Same H1 H ∧ (∀ y o, F y = some o → B y = some o ∨ H1 y = none) ∧ F D = none ∧ H D = some (.lst ys) ∧ RepAll K F ys ((xs.take i).map f))
    ⟨B, [], .refl _, hB.trans (same_upd hD), same_upd hD, fun _ _ e => .inl e, hB.free hD, upd_same, rfl⟩ (fun i H _ ⟨F, ys, _, _, h3, _⟩ => hG H h3) ?_ ?_
  · rintro i x H H' hi ⟨F, ys, s1, s2, s3, nB, fD, hd, hr⟩ hy
    have hx : xs[i]? = some xs[i] := List.getElem?_eq_getElem (by omega)
    refine turn i _ x F H H' _ hx s1 s2 s3 hy fun v F4 H4 sF s4 sH nw rv => ?_
    have f4 : F4 D = none := by
      cases q : F4 D with
      | none => rfl
      | some o =>
        rcases nw _ _ q with z | z
        · rw [fD] at z; cases z
        · rw [hd] at z; cases z
    have ly := hr.length
    refine ⟨ys, sH _ _ hd, ?_, F4, ys ++ [v], s1.trans sF, fun y o e => ?_, fun y o e => ?_, fun y o e => ?_, f4, upd_same, ?_⟩
    · rw [ly, List.length_map]
      have := List.length_take_le i xs
      omega
    · rw [upd_ne (fun z => by rw [z, f4] at e; cases e)]
      exact s4 _ _ e
    · rw [upd_ne (ne_of_none e hD)]
      exact sH _ _ (s3 _ _ e)
    · rcases nw _ _ e with z | z
      · exact nB _ _ z
      · exact .inr (s3.free z)
    · rw [List.take_add_one, hx, List.map_append]
      exact RepAll.append (RepAll.mono sF _ hr) (.one rv)
  · rintro H ⟨F, ys, s1, s2, s3, nB, fD, hd, hr⟩
    rw [← hn, List.take_length] at hr
    exact done F H ys s1 s2 s3 nB fD hd hr
end
end C
namespace Fz
open PySem PySem.Spec PyProof.Rows L2 G D L S C
section
variable {b : Addr} {F0 H0 F1 H1 F' H2 : Hp}
/-- the frozen part grows by what is new -/
theorem Go.ext (a : Go b F0 H0 F1 H1) (sF : Same F1 F') (s' : Same F' H2) (sH : Same H1 H2) (nw : ∀ y o, F' y = some o → F1 y = some o ∨ H1 y = none) : Go b F0 H0 F' H2 := by
  refine ⟨⟨s', ?_, a.fr.cell' sH sF⟩, a.up.trans sF, a.but.same sH, fun y o e => ?_⟩
  · cases q : F' b with
    | none => rfl
    | some u =>
      rcases nw _ _ q with z | z
      · rw [a.out] at z; cases z
      · obtain ⟨o, e⟩ := a.fr.some
        rw [e] at z; cases z
  · rcases nw _ _ e with z | z
    · exact a.new _ _ z
    · refine .inr ?_
      by_cases q : y = b
      · obtain ⟨o, e⟩ := a.fr.some
        rw [q, e] at z; cases z
      · cases hh : H0 y with
        | none => rfl
        | some u =>
          rw [a.but _ _ q hh] at z
          cases z
/-- all that is new is frozen -/
theorem Go.all (a : Go b F0 H0 F1 H1) (s : Same H1 H2) : ∃ F2, Go b F0 H0 F2 H2 ∧ Same F1 F2 ∧ ∀ y o, H1 y = none → H2 y = some o → F2 y = some o := by
  refine ⟨fun y => if (H1 y).isSome then F1 y else H2 y, a.ext (fun y o e => ?_) (fun y o e => ?_) s (fun y o e => ?_), fun y o e => ?_, fun y o h e => ?_⟩
  · show (if (H1 y).isSome then F1 y else H2 y) = _
    rw [a.same _ _ e]; exact e
  · revert e
    show (if (H1 y).isSome then F1 y else H2 y) = _ → _
    split
    · intro e; exact s _ _ (a.same _ _ e)
    · exact id
  · revert e
    show (if (H1 y).isSome then F1 y else H2 y) = _ → _
    split
    · exact .inl
    · rename_i h
      intro _
      refine .inr ?_
      cases q : H1 y with
      | none => rfl
      | some u => rw [q] at h; exact absurd rfl h
  · show (if (H1 y).isSome then F1 y else H2 y) = _
    rw [a.same _ _ e]; exact e
  · show (if (H1 y).isSome then F1 y else H2 y) = _
    rw [h]; exact e
end
end Fz

set_option Elab.async false
set_option linter.all false
set_option maxRecDepth 100000
set_option maxHeartbeats 8000000
namespace K
open PySem PySem.Spec PyProof.Rows L2 G D L S C Sx Kx Ex Lt
open Fz hiding Fr
open C8 (pss_cut tCut)
open PySem.W (dataLt alike AllAlike Sortable)
/-- two tuples, one behind the other -/
def spRow (K : PySem.W.Frag) : Sp := fun vs H Q _ => ∃ (p q : Addr) (xs ys : List V), vs = [.ref p, .ref q] ∧ H p = some (.tup xs) ∧ H q = some (.tup ys) ∧ xs ≠ [] ∧ ys ≠ [] ∧ xs.length + ys.length ≤ 100 ∧
  ∀ t, H t = none → Q (.ref t) (upd H t (.tup (xs ++ ys)))
/-- the law's rules in order -/
def spSortedRules (K : PySem.W.Frag) : Sp := fun vs H Q _ => ∃ (g r : Addr) (n : Int) (ds cs : List Str) (kvs : List (List Key × V)) (rs : List Rl) (Gf : Hp), vs = [.ref g] ∧ Same Gf H ∧ LG H g n ds cs r ∧ H r = some (.dT kvs) ∧ LR K Gf kvs rs ∧ rs.length ≤ 100 ∧ (rs.map Rl.key).Nodup ∧
  ∀ v es F' H', Same H H' → Same Gf F' → Same F' H' → (∀ y o, F' y = some o → Gf y = some o ∨ H y = none) → Rep K F' v (.lst es) → es.Perm (rs.map Rl.dat) → Q v H'
/-- what stands at r is nothing that data are made of -/
structure NoD (o : HO) : Prop where
  h1 : ∀ xs, o ≠ .lst xs
  h2 : ∀ xs, o ≠ .tup xs
  h3 : ∀ kvs, o ≠ .dK kvs
  h4 : ∀ C dx fs, o ≠ .ins C dx fs
section
variable {K : PySem.W.Frag} {H H' : Hp} {r : Addr}
mutual
theorem rep_off (no : ∀ o, H r = some o → NoD o) (e : ∀ y, y ≠ r → H' y = H y) : ∀ (d : Dat) {v : V}, Rep K H v d → Rep K H' v d
  | .non, _, h => h
  | .bl _, _, h => h
  | .int _, _, h => h
  | .str _, _, h => h
  | .lst ds, _, ⟨a, xs, q, ha, hs⟩ => ⟨a, xs, q, by rw [e a (fun z => by rw [z] at ha; exact (no _ ha).h1 _ rfl)]; exact ha, repAll_off no e ds hs⟩
  | .tup ds, _, ⟨a, xs, q, ha, hs⟩ => ⟨a, xs, q, by rw [e a (fun z => by rw [z] at ha; exact (no _ ha).h2 _ rfl)]; exact ha, repAll_off no e ds hs⟩
  | .dct ks ds, _, ⟨a, kvs, q, ha, hk, hs⟩ => ⟨a, kvs, q, by rw [e a (fun z => by rw [z] at ha; exact (no _ ha).h3 _ rfl)]; exact ha, hk, repAll_off no e ds hs⟩
  | .obj C a, _, ⟨q, oc, dx, fs, ha⟩ => ⟨q, oc, dx, fs, by rw [e a (fun z => by rw [z] at ha; exact (no _ ha).h4 _ _ _ rfl)]; exact ha⟩
theorem repAll_off (no : ∀ o, H r = some o → NoD o) (e : ∀ y, y ≠ r → H' y = H y) : ∀ (ds : List Dat) {vs : List V}, RepAll K H vs ds → RepAll K H' vs ds
  | [], _, h => h
  | d :: ds, _, ⟨v, t, q, h1, h2⟩ => ⟨v, t, q, rep_off no e d h1, repAll_off no e ds h2⟩
end
theorem lg_off {g : Addr} {n : Int} {ds cs : List Str} {q : Addr} (no : ∀ o, H r = some o → NoD o) (e : ∀ y, y ≠ r → H' y = H y) (h : LG H g n ds cs q) : LG H' g n ds cs q := by
  obtain ⟨d, c, h1, h2, h3⟩ := h.ex
  refine ⟨d, c, ?_, ?_, ?_⟩
  · rw [e g (fun z => by rw [z] at h1; exact (no _ h1).h3 _ rfl)]; exact h1
  · rw [e d (fun z => by rw [z] at h2; exact (no _ h2).h1 _ rfl)]; exact h2
  · rw [e c (fun z => by rw [z] at h3; exact (no _ h3).h1 _ rfl)]; exact h3
end
theorem nod_dT (kvs : List (List Key × V)) : NoD (.dT kvs) := ⟨fun _ h => (nomatch h), fun _ h => (nomatch h), fun _ h => (nomatch h), fun _ _ _ h => (nomatch h)⟩
theorem nod_frz (o : Obj) (u : HO) : NoD (.frz o u) := ⟨fun _ h => (nomatch h), fun _ h => (nomatch h), fun _ h => (nomatch h), fun _ _ _ h => (nomatch h)⟩
theorem valV_at {κ : Type} [DecidableEq κ] : ∀ {kvs : List (κ × V)} {k : κ} {v : V} {i : Nat}, (kvs.map (·.1)).Nodup → kvs[i]? = some (k, v) → valV kvs k = some v
  | [], _, _, _, _, h => by simp at h
  | kv :: kvs, k, v, 0, _, h => by
    have h : kv = (k, v) := Option.some.inj h
    subst h
    exact valV_pos rfl
  | kv :: kvs, k, v, i + 1, nd, h => by
    have h : kvs[i]? = some (k, v) := h
    rw [List.map_cons, List.nodup_cons] at nd
    rw [valV_neg (fun z => nd.1 (List.mem_map.mpr ⟨(k, v), List.mem_of_getElem? h, z.symm⟩))]
    exact valV_at nd.2 h
theorem ord_rules (rs : List Rl) : Ord (rs.map Rl.dat) := by
  refine ⟨fun d hd => ?_, fun d hd e he => ?_, .inl fun d hd => ?_, fun d hd => ?_⟩
  · obtain ⟨r, _, rfl⟩ := List.mem_map.mp hd
    have : pureAll (r.told.map Dat.str) = true := by rw [pureAll_all, List.all_map]; exact List.all_eq_true.mpr fun _ _ => rfl
    simp [Rl.dat, Dat.pure, pureAll, this]
  · rw [List.map_map] at hd he
    obtain ⟨r, _, rfl⟩ := List.mem_map.mp hd
    obtain ⟨q, _, rfl⟩ := List.mem_map.mp he
    have al : ∀ xs ys : List Str, PySem.W.alikeAll (pyAll (xs.map Dat.str)) (pyAll (ys.map Dat.str)) = true := by
      intro xs
      induction xs with
      | nil => intro ys; simp [pyAll, PySem.W.alikeAll]
      | cons x xs ih =>
        intro ys
        cases ys with
        | nil => simp [pyAll, PySem.W.alikeAll]
        | cons y ys => simpa [pyAll, Dat.py, PySem.W.alikeAll, alike] using ih ys
    simp [Rl.dat, Dat.py, pyAll, alike, PySem.W.alikeAll, al]
  · rw [List.map_map] at hd
    obtain ⟨r, _, rfl⟩ := List.mem_map.mp hd
    exact ⟨.str r.door, _, rfl⟩
  · obtain ⟨r, _, rfl⟩ := List.mem_map.mp hd
    have dp : ∀ xs : List Str, PyData.depthAll (pyAll (xs.map Dat.str)) ≤ 1 := by
      intro xs
      induction xs with
      | nil => simp [pyAll, PyData.depthAll]
      | cons x xs ih =>
        simp only [List.map_cons, pyAll, Dat.py, PyData.depthAll, PyData.depth]
        omega
    have := dp r.told
    simp only [Rl.dat, Dat.py, pyAll, PyData.depth, PyData.depthAll]
    omega
section
variable {P : Program} {w : World} {K : PySem.W.Frag} {mg : Str → Option Value} {base : Heap}
abbrev s_law_rule_row : Stmt := top 18
theorem sc_law_rule_row : FnScope ["key", "rest"] ["key", "rest"] (defScope s_law_rule_row) := ⟨rfl, rfl, rfl, by decide +kernel, rfl, by decide +kernel, by decide +kernel⟩
theorem ok_rule_row {f : Addr} {fd : FuncData} (F : Fun K "_law_rule_row" "_law_rule_row" s_law_rule_row f fd) : Fn P w K mg base CX0 1 f fd ["key", "rest"] (spRow K) := by
  refine fn_calm F sc_law_rule_row (fun vs H Q E h => ?_) (fun cdv A outer s H vs Q E hc hr h => ?_)
  · obtain ⟨p, q, xs, ys, rfl, _⟩ := h
    rfl
  · obtain ⟨p, q, xs, ys, rfl, hp, hq, nx, ny, hl, k⟩ := h
    refine ⟨_, (pss_one (ps_ret (pe_op op_catT (pv 0) (pv 1)))), ?_⟩
    exact ⟨_, rfl, _, rfl, p, q, xs, ys, rfl, rfl, SqT.of hp, SqT.of hq, nx, Nat.le_trans hl (by decide), fun z => absurd z ny, fun _ => k⟩
abbrev s_law_sorted_rules : Stmt := top 19
theorem sc_law_sorted_rules : FnScope ["gate", "key"] ["gate"] (defScope s_law_sorted_rules) := ⟨rfl, rfl, rfl, by decide +kernel, rfl, by decide +kernel, by decide +kernel⟩
theorem ok_sorted_rules {f : Addr} {fd : FuncData} (F : Fun K "_law_sorted_rules" "_law_sorted_rules" s_law_sorted_rules f fd) (T : Bl mg)
    (D_law_rule_row : Def P w K mg base 1 "_law_rule_row" ["key", "rest"] (spRow K)) : Fn P w K mg base CX0 2 f fd ["gate"] (spSortedRules K) := by
  refine fn_calm F sc_law_sorted_rules (fun vs H Q E h => ?_) (fun cdv A outer s H vs Q E hc hr h => ?_)
  · obtain ⟨g, r, n, ds, cs, kvs, rs, Gf, rfl, _⟩ := h
    rfl
  · obtain ⟨g, r, n, ds, cs, kvs, rs, Gf, rfl, sGf, lg, hR, lr, hl, nd, k⟩ := h
    have hu := hu_of hr
    have hu64 := hr.units
    have lk : rs.length = kvs.length := by
      have := congrArg List.length lr.ks
      rw [List.length_map, List.length_map] at this
      exact this.symm
    refine ⟨_, (pss_one (ps_ret (pe_callB (call_sorted hu64) (by rfl) T.sortedN (by decide +kernel) (pa_cons (pe_lock (pe_lc (own := [("key", 1)]) (g := gName 1) (tt := tYes) rfl sc_law_sorted_rules.nd (pi_keys (pe_dget hu (pv 0) pe_str (fun _ _ => rfl))) (blkOk_by (N := ["gate", "key"]) (sc := defScope s_law_sorted_rules) (by decide +kernel)) (fun _ _ _ _ _ => (pg_name (i := 1) sc_law_sorted_rules.nd rfl (Or.inl rfl))) (fun _ _ _ _ _ => pts_nil) (fun _ _ _ _ _ => (pe_def D_law_rule_row hc (hr.mono (by decide)) (pa_cons (pv 1) (pa_cons (pe_dget hu (pe_dget hu (pv 0) pe_str (fun _ _ => rfl)) (pv 1) (fun _ _ => rfl)) pa_nil)))))) pa_nil)))), ?_⟩
    refine ⟨r, .dT kvs, hR, trivial, fun od => ?_⟩
    have noR : ∀ o, H r = some o → NoD o := fun o e => by rw [hR] at e; cases e; exact nod_dT kvs
    have noG : ∀ o, Gf r = some o → NoD o := fun o e => noR o (sGf _ _ e)
    have offL : ∀ y, y ≠ r → (upd H r (.frz od (.dT kvs))) y = H y := fun y z => upd_ne z
    have lgL := lg_off noR offL lg
    have atL : (upd H r (.frz od (.dT kvs))) r = some (.frz od (.dT kvs)) := upd_same
    -- the frozen part without the dict
    obtain ⟨B, eB, Br⟩ : ∃ B : Hp, (∀ y, y ≠ r → B y = Gf y) ∧ B r = none := ⟨fun y => if y = r then none else Gf y, fun y z => if_neg z, if_pos rfl⟩
    have vsB := repAll_off noG eB _ lr.vs
    have hB : Same B (upd H r (.frz od (.dT kvs))) := fun y o e => by
      have z : y ≠ r := fun z => by rw [z, Br] at e; cases e
      rw [offL y z]
      exact sGf _ _ (by rw [← eB y z]; exact e)
    have freeL : ∀ y, (upd H r (.frz od (.dT kvs))) y = none → H y = none := fun y e => by
      have z : y ≠ r := fun z => by rw [z, atL] at e; cases e
      rw [← offL y z]; exact e
    have back : ∀ H', Same (upd H r (.frz od (.dT kvs))) H' → Same H (upd H' r (.dT kvs)) := by
      intro H' s y o e
      by_cases q : y = r
      · rw [q, upd_same, ← hR, ← q, e]
      · rw [upd_ne q]
        exact s _ _ (by rw [upd_ne q]; exact e)
    generalize upd H r (.frz od (.dT kvs)) = HL at lgL hB atL back freeL
    clear offL
    obtain ⟨d, c, hg, _, _⟩ := lgL.ex
    refine ⟨_, rfl, g, _, rfl, dg hg (lg_rules n d c r), r, od, rfl, .inr ⟨kvs, atL, fun D hD => ?_⟩⟩
    refine lc_rep (K := K) walk_keysT rs Rl.dat hB lk (by rw [← lk]; exact Nat.lt_of_le_of_lt hl (by decide)) hD (fun H' s => s _ _ atL) ?_ ?_
    · rintro i ru x F' H1 H2 Kt hru sF sH sL ⟨rfl, k1, v1, q, hk1, rfl, hq⟩ kt
      have ek : k1 = ru.key := by
        have e1 : (kvs.map (·.1))[i]? = some k1 := by rw [List.getElem?_map, hk1]; rfl
        rw [lr.ks, List.getElem?_map, hru] at e1
        exact (Option.some.inj e1).symm
      subst ek
      have hv : Rep K B v1 ru.restD := by
        obtain ⟨d1, hd1, rd1⟩ := vsB.get (i := i) (v := v1) (by rw [List.getElem?_map, hk1]; rfl)
        rw [List.getElem?_map, hru] at hd1
        rw [Option.some.inj hd1]
        exact rd1
      have vv : valV kvs ru.key = some v1 := valV_at (by rw [lr.ks]; exact nd) hk1
      obtain ⟨pv, _, rfl, hpv, y1, _, rfl, e1, y2, _, rfl, e2, y3, _, rfl, e3, rfl⟩ := hv
      obtain rfl : y1 = .int ru.later := e1
      obtain rfl : y2 = .bl ru.keeps := e2
      refine ⟨rfl, _, rfl, _, rfl, g, _, rfl, dg (sL _ _ hg) (lg_rules n d c r), _, rfl, r, _, rfl, .inr ⟨kvs, ru.key, q, .inr ⟨od, sL _ _ atL⟩, rfl, hq, vv.symm⟩, q, pv, _, _, rfl, hq, sH _ _ (sF _ _ hpv), by simp [Rl.key], by simp, (show 3 + 3 ≤ 100 by decide), fun t ht => ?_⟩
      have ft : F' t = none := sH.free ht
      refine kt (.ref t) (upd F' t (.tup (ru.key.map kV ++ [.int ru.later, .bl ru.keeps, y3]))) _ (same_upd ft) (fun y o e => ?_) (same_upd ht) (fun y o e => ?_) ?_
      · by_cases z : y = t
        · rw [z, upd_same] at e ⊢
          exact e
        · rw [upd_ne z] at e ⊢
          exact sH _ _ e
      · by_cases z : y = t
        · rw [z]; exact .inr ht
        · rw [upd_ne z] at e
          exact .inl e
      · exact ⟨t, _, rfl, upd_same, _, _, rfl, rfl, _, _, rfl, rfl, _, _, rfl, rfl, _, _, rfl, rfl, _, _, rfl, rfl, _, _, rfl, Rep.mono (sF.trans (same_upd ft)) _ e3, rfl⟩
    · intro F' H1 ys s1 s2 s12 nB fD hD1 hys
      refine ⟨s12 _ _ atL, ?_⟩
      have Dr : D ≠ r := fun z => by rw [z, atL] at hD; cases hD
      -- the frozen part with the dict again
      obtain ⟨F4, e4, F4r⟩ : ∃ F4 : Hp, (∀ y, y ≠ r → F4 y = F' y) ∧ F4 r = Gf r := ⟨fun y => if y = r then Gf r else F' y, fun y z => if_neg z, if_pos rfl⟩
      have noF : ∀ o, F' r = some o → NoD o := fun o e => by
        have := s2 _ _ e
        rw [s12 _ _ atL] at this
        cases this
        exact nod_frz _ _
      have sU : Same F4 (upd H1 r (.dT kvs)) := fun y o e => by
        by_cases z : y = r
        · rw [z, F4r] at e
          rw [z, upd_same, ← hR]
          exact sGf _ _ e
        · rw [e4 y z] at e
          rw [upd_ne z]
          exact s2 _ _ e
      refine ⟨D, ys, rs.map Rl.dat, F4, rfl, by rw [upd_ne Dr]; exact hD1, sU, repAll_off noF e4 _ hys, ord_rules rs, fun p zs hp hz lz => ?_⟩
      have sp := same_upd (o := .lst zs) hp
      have fp : F4 p = none := sU.free hp
      refine k (.ref p) (sortD (rs.map Rl.dat)) (upd F4 p (.lst zs)) _ ((back _ s12).trans sp) (fun y o e => ?_) (fun y o e => ?_) (fun y o e => ?_) ⟨p, zs, rfl, upd_same, RepAll.mono (same_upd fp) _ hz⟩ (List.mergeSort_perm _ _)
      · refine same_upd fp _ _ ?_
        by_cases z : y = r
        · rw [z, F4r, ← z]; exact e
        · rw [e4 y z]
          exact s1 _ _ (by rw [eB y z]; exact e)
      · by_cases z : y = p
        · rw [z, upd_same] at e ⊢
          exact e
        · rw [upd_ne z] at e ⊢
          exact sU _ _ e
      · by_cases z : y = p
        · refine .inr ?_
          rw [z]
          exact ((back _ s12).free hp)
        · rw [upd_ne z] at e
          by_cases z2 : y = r
          · rw [z2, F4r, ← z2] at e
            exact .inl e
          · rw [e4 y z2] at e
            rcases nB _ _ e with q | q
            · rw [eB y z2] at q
              exact .inl q
            · exact .inr (freeL _ q)
end
end K

set_option Elab.async false
set_option linter.all false
set_option maxRecDepth 100000
set_option maxHeartbeats 8000000
namespace K
open PySem PySem.Spec PyProof.Rows L2 G D L S C Sx Kx Ex Lt
open Fz hiding Fr
open C8 (pss_cut tCut)
open PySem.W (dataLt alike AllAlike Sortable)
theorem perm_map {α β : Type} {f : α → β} {es xs : List β} (h : es.Perm xs) : ∀ rs : List α, xs = rs.map f → ∃ rs' : List α, es = rs'.map f ∧ rs'.Perm rs := by
  induction h with
  | nil => intro rs e; exact ⟨rs, e, .refl _⟩
  | cons x _ ih =>
    intro rs e
    match rs, e with
    | r :: rs, e =>
      rw [List.map_cons] at e
      injection e with e1 e2
      obtain ⟨rs', e3, p⟩ := ih rs e2
      exact ⟨r :: rs', by rw [List.map_cons, ← e3, e1], p.cons r⟩
  | swap x y l =>
    intro rs e
    match rs, e with
    | r :: q :: rs, e =>
      rw [List.map_cons, List.map_cons] at e
      injection e with e1 e2
      injection e2 with e2 e3
      exact ⟨q :: r :: rs, by rw [List.map_cons, List.map_cons, ← e3, e1, e2], .swap r q rs⟩
  | trans _ _ ih1 ih2 =>
    intro rs e
    obtain ⟨rs1, e1, p1⟩ := ih2 rs e
    obtain ⟨rs2, e2, p2⟩ := ih1 rs1 e1
    exact ⟨rs2, e2, p2.trans p1⟩
theorem Names.perm {us ds : List Str} (h : Names ds) (p : us.Perm ds) : Names us := ⟨p.nodup_iff.mpr h.nd, fun w hw => h.ok w (p.mem_iff.mp hw), by rw [p.length_eq]; exact h.len⟩
/-- the law's gate, frozen -/
structure LGF (K : PySem.W.Frag) (F : Hp) (g : Addr) (n : Int) (ds cs : List Str) (rs : List Rl) : Prop where
  ex : ∃ r kvs, LG F g n ds cs r ∧ F r = some (.dT kvs) ∧ LR K F kvs rs
theorem LGF.mono {K : PySem.W.Frag} {F F' : Hp} {g : Addr} {n : Int} {ds cs : List Str} {rs : List Rl} (h : LGF K F g n ds cs rs) (s : Same F F') : LGF K F' g n ds cs rs := by
  obtain ⟨r, kvs, h1, h2, h3⟩ := h.ex
  exact ⟨r, kvs, h1.mono s, s _ _ h2, h3.mono s⟩
/-- its parts are well-formed -/
structure WfG (n : Int) (ds cs : List Str) (rs : List Rl) : Prop where
  n1 : 1 ≤ n
  n64 : n ≤ 64
  nd : Names ds
  nc : Names cs
  dn : ds ≠ []
  lc : cs.length ≤ 16
  ok : ∀ r ∈ rs, r.Ok n ds cs
  tl : ∀ r ∈ rs, r.told.length ≤ 100
  ks : (rs.map Rl.key).Nodup
  rl : rs.length ≤ 100
/-- a Gate of it -/
def spLawGate (K : PySem.W.Frag) (C : Addr) : Sp := fun vs H Q _ => ∃ (b g : Addr) (F : Hp) (n : Int) (ds cs : List Str) (rs : List Rl), vs = [.ref b, .ref g] ∧ Fz.Fr F H b ∧ LGF K F g n ds cs rs ∧ WfG n ds cs rs ∧
  ∀ (x : Addr) (us ws : List Str) (rs' : List Rl) (F' H' : Hp), Go b F H F' H' → GateAt K C F' x n us ws rs' → us.Perm ds → ws.Perm cs → rs'.Perm rs → Q (.ref x) H'
section
variable {P : Program} {w : World} {K : PySem.W.Frag} {mg : Str → Option Value} {base : Heap}
abbrev s_law_gate : Stmt := top 22
theorem sc_law_gate : FnScope ["bag", "gate", "rules", "doors", "closet"] ["bag", "gate"] (defScope s_law_gate) := ⟨rfl, rfl, rfl, by decide +kernel, rfl, by decide +kernel, by decide +kernel⟩
theorem ok_law_gate {f C fI : Addr} {fd fdI : FuncData} (F : Fun K "_law_gate" "_law_gate" s_law_gate f fd) (T : Bl mg) (hG : mg "Gate" = some (.ref C))
    (MG : Mk K C fI) (GI : Fn P w K mg base CX0 5 fI fdI ["self", "states", "doors", "closet", "rules"] (spInit K C)) (bI : Binds K fdI ["self", "states", "doors", "closet", "rules"] [])
    (D_law_take : Def P w K mg base 2 "_law_take" ["bag", "many"] spTake) (D_law_mixed : Def P w K mg base 3 "_law_mixed" ["bag", "things"] (spMixed K))
    (D_law_sorted_rules : Def P w K mg base 2 "_law_sorted_rules" ["gate"] (spSortedRules K)) : Fn P w K mg base CX0 7 f fd ["bag", "gate"] (spLawGate K C) := by
  refine fn_calm F sc_law_gate (fun vs H Q E h => ?_) (fun cdv A outer s H vs Q E hc hr h => ?_)
  · obtain ⟨b, g, F, n, ds, cs, rs, rfl, _⟩ := h
    rfl
  · obtain ⟨b, g, F0, n, ds, cs, rs, rfl, fr, lgf, wf, k⟩ := h
    have hu := hu_of hr
    obtain ⟨r, kvs, lg, hR, lr⟩ := lgf.ex
    obtain ⟨d, c, hg, hd, hC⟩ := lg.ex
    refine ⟨_, (pss_cons (ps_set (i := 2) sc_law_gate.nd rfl (Or.inl rfl) (pe_def D_law_mixed hc (hr.mono (by decide)) (pa_cons (pv 0) (pa_cons (pe_def D_law_sorted_rules hc (hr.mono (by decide)) (pa_cons (pv 1) pa_nil)) pa_nil))))
 (pss_cons (ps_par (i := 3) (j := 4) (by rfl) sc_law_gate.nd rfl rfl (by decide) rfl rfl (pa_cons (pe_def D_law_mixed hc (hr.mono (by decide)) (pa_cons (pv 0) (pa_cons (pe_dget hu (pv 1) pe_str (fun _ _ => rfl)) pa_nil))) (pa_cons (pe_def D_law_mixed hc (hr.mono (by decide)) (pa_cons (pv 0) (pa_cons (pe_dget hu (pv 1) pe_str (fun _ _ => rfl)) pa_nil))) pa_nil)) (by rfl))
 (pss_cons (ps_if (pt_cmpR op_eq (pe_def D_law_take hc (hr.mono (by decide)) (pa_cons (pv 0) (pa_cons pe_int pa_nil))) pe_int (nomark _))
  (pss_one (ps_ret (pe_mk MG GI hc (hr.mono (by decide)) rfl hG bI .nil pass0 (pa_cons (pe_dget hu (pv 1) pe_str (fun _ _ => rfl)) (pa_cons (pv 3) (pa_cons (pv 4) (pa_cons (pv 2) pa_nil)))))))
  pss_nil)
 (pss_one (ps_ret (pe_mk MG GI hc (hr.mono (by decide)) rfl hG bI .nil pass0 (pa_cons (pe_dget hu (pv 1) pe_str (fun _ _ => rfl)) (pa_cons (pe_callTy call_tuple_of (by rfl) T.tupleN (by decide +kernel) (pa_cons (pv 3) pa_nil)) (pa_cons (pe_callTy call_tuple_of (by rfl) T.tupleN (by decide +kernel) (pa_cons (pv 4) pa_nil)) (pa_cons (pe_callTy call_tuple_of (by rfl) T.tupleN (by decide +kernel) (pa_cons (pv 2) pa_nil)) pa_nil)))))))))), ?_⟩
    refine ⟨_, rfl, _, rfl, g, r, n, ds, cs, kvs, rs, F0, rfl, fr.same, lg.mono fr.same, fr.same _ _ hR, lr, wf.rl, wf.ks, fun v es F1 H1 sH sF sF' nw rv pe => ?_⟩
    have g1 := (Go.refl fr).ext sF sF' sH nw
    obtain ⟨t, xs, rfl, ht, hxs⟩ := rv
    refine ⟨b, t, F1, xs, es, rfl, g1.fr, ht, hxs, ?_, fun v2 es2 F2 H2 g2 rv2 pe2 => ?_⟩
    · rw [pe.length_eq, List.length_map]
      exact Nat.le_trans wf.rl (by decide)
    obtain ⟨rs2, rfl, p2⟩ := perm_map (pe2.trans pe) rs rfl
    have g12 := g1.trans g2
    refine ⟨_, rfl, _, rfl, g, _, rfl, dg (g12.same _ _ (g12.up _ _ hg)) (lg_doors n d c r), b, d, F2, _, ds.map .str, rfl, g12.fr, g12.up _ _ hd, RepAll.of_strs _, by rw [List.length_map]; exact wf.nd.len, fun v3 es3 F3 H3 g3 rv3 pe3 => ?_⟩
    obtain ⟨us, rfl, pus⟩ := perm_map_str pe3
    have g13 := g12.trans g3
    refine ⟨_, rfl, _, rfl, g, _, rfl, dg (g13.same _ _ (g13.up _ _ hg)) (lg_closet n d c r), b, c, F3, _, cs.map .str, rfl, g13.fr, g13.up _ _ hC, RepAll.of_strs _, by rw [List.length_map]; exact wf.nc.len, fun v4 es4 F4 H4 g4 rv4 pe4 => ⟨_, _, rfl, ?_⟩⟩
    obtain ⟨ws, rfl, pws⟩ := perm_map_str pe4
    have g14 := g13.trans g4
    have mk : ∀ (F5 H5 : Hp) (y2 y3 y4 : V), Go b F0 H F5 H5 → SeqOf K F5 y2 (us.map .str) → SeqOf K F5 y3 (ws.map .str) → SeqOf K F5 y4 (rs2.map Rl.dat) → ∀ x dx, H5 x = none → H5 dx = none → dx ≠ x →
        spInit K C [.ref x, .int n, y2, y3, y4] (upd (upd H5 dx (.own x)) x (.ins C dx [])) (fun v H2 => v = .non ∧ Q (.ref x) H2) E0 := by
      intro F5 H5 y2 y3 y4 g5 h2 h3 h4 x dx nx ndx nex
      have s5 : Same H5 (upd (upd H5 dx (.own x)) x (.ins C dx [])) := fun y o e => by
        rw [upd_ne (ne_of_none e nx), upd_ne (ne_of_none e ndx)]
        exact e
      refine ⟨x, dx, n, y2, y3, y4, us, ws, rs2, H5, F5, rfl, upd_same, g5.same, s5, nx, h2, h3, h4, wf.n1, wf.n64, wf.nd.perm pus, wf.nc.perm pws, ?_, ?_, ?_, ?_, fun H' sH' gn => ⟨rfl, ?_⟩⟩
      · intro z
        exact wf.dn (List.length_eq_zero_iff.mp (by rw [← pus.length_eq, z]; rfl))
      · exact fun q hq => (wf.ok q (p2.mem_iff.mp hq)).perm pus pws
      · exact (p2.map Rl.key).nodup_iff.mpr wf.ks
      · rw [p2.length_eq]
        exact Nat.le_trans wf.rl (by decide)
      · obtain ⟨F6, g6, s6, nw6⟩ := g5.all sH'
        obtain ⟨dx', d', c', r', kvs', us', ws', e1, e2, e3, e4, e5, e6, e7, e8, z1, z2, z3⟩ := gn.ex
        exact k x us ws rs2 F6 H' g6 ⟨dx', d', c', r', kvs', us', ws', nw6 _ _ nx e1, nw6 _ _ z1 e2, nw6 _ _ z2 e3, nw6 _ _ z3 e4, e5, e6, e7, RepAll.mono s6 _ e8⟩ pus pws p2
    refine ⟨_, rfl, b, 2, rfl, g14.bag, by decide, by decide, fun k0 H5 _ _ sb5 bt5 => ⟨rfl, _, rfl, ?_⟩⟩
    have g15 := g14.took sb5 bt5
    have r2 : SeqOf K F4 v2 (rs2.map Rl.dat) := .inl (Rep.mono (g3.up.trans g4.up) _ rv2)
    have r3 : SeqOf K F4 v3 (us.map .str) := .inl (Rep.mono g4.up _ rv3)
    have r4 : SeqOf K F4 v4 (ws.map .str) := .inl rv4
    refine ite2 (fun e => ?_) (fun e => ?_)
    · exact ⟨_, rfl, g, _, rfl, dg (g15.same _ _ (g15.up _ _ hg)) (lg_states n d c r), _, rfl, _, rfl, _, rfl, mk F4 H5 v3 v4 v2 g15 r3 r4 r2⟩
    · refine ⟨_, rfl, g, _, rfl, dg (g15.same _ _ (g15.up _ _ hg)) (lg_states n d c r), ?_⟩
      obtain ⟨a3, x3, rfl, h3, q3⟩ := Rep.mono g4.up _ rv3
      obtain ⟨a4, x4, rfl, h4, q4⟩ := rv4
      obtain ⟨a2, x2, rfl, h2, q2⟩ := Rep.mono (g3.up.trans g4.up) _ rv2
      refine ⟨_, rfl, a3, x3, rfl, .inl ⟨SqL.of (g15.same _ _ h3), fun t3 ht3 => ?_⟩⟩
      obtain ⟨F6, g6, s6, at6⟩ := g15.put' (o := .tup x3) ht3
      refine ⟨_, rfl, a4, x4, rfl, .inl ⟨SqL.of (g6.same _ _ (s6 _ _ h4)), fun t4 ht4 => ?_⟩⟩
      obtain ⟨F7, g7, s7, at7⟩ := g6.put' (o := .tup x4) ht4
      refine ⟨_, rfl, a2, x2, rfl, .inl ⟨SqL.of (g7.same _ _ (s7 _ _ (s6 _ _ h2))), fun t2 ht2 => ?_⟩⟩
      obtain ⟨F8, g8, s8, at8⟩ := g7.put' (o := .tup x2) ht2
      exact mk F8 _ _ _ _ g8 (.inr ⟨t3, x3, rfl, (s7.trans s8) _ _ at6, RepAll.mono ((s6.trans s7).trans s8) _ q3⟩) (.inr ⟨t4, x4, rfl, s8 _ _ at7, RepAll.mono ((s6.trans s7).trans s8) _ q4⟩)
        (.inr ⟨t2, x2, rfl, at8, RepAll.mono ((s6.trans s7).trans s8) _ q2⟩)
end
end K

set_option Elab.async false
set_option linter.all false
set_option maxRecDepth 100000
set_option maxHeartbeats 8000000
namespace K
open PySem PySem.Spec PyProof.Rows L2 G D L S C Sx Kx Ex Lt
open Fz hiding Fr
open C8 (pss_cut tCut)
open PySem.W (dataLt alike AllAlike Sortable)
def spLKind : Sp := fun vs H Q _ => ∃ (g r : Addr) (s : Str) (n : Int) (ds cs : List Str), vs = [.ref g, .str s] ∧ LG H g n ds cs r ∧ Q (.str (kindOf cs s)) H
/-- a rule's rest, or nothing, as the law's dict has it -/
theorem val_rest {K : PySem.W.Frag} {H : Hp} : ∀ {rs : List Rl} {kvs : List (List Key × V)}, LR K H kvs rs → ∀ k,
    (∃ v r, valV kvs k = some v ∧ rs.find? (fun r => decide (r.key = k)) = some r ∧ Rep K H v r.restD) ∨ (valV kvs k = none ∧ rs.find? (fun r => decide (r.key = k)) = none)
  | [], kvs, h, k => by
    rw [List.map_eq_nil_iff.mp h.ks]
    exact .inr ⟨rfl, rfl⟩
  | r :: rs, kvs, h, k => by
    match kvs, h with
    | (k1, v1) :: kvs, h =>
      have e := h.ks
      rw [List.map_cons, List.map_cons] at e
      injection e with e1 e2
      obtain ⟨v, t, e3, hv, ht⟩ := h.vs
      rw [List.map_cons] at e3
      injection e3 with e4 e5
      have e4 : v1 = v := e4
      by_cases q : k1 = k
      · refine .inl ⟨v1, r, valV_pos (p := (k1, v1)) q, List.find?_cons_of_pos (by simpa [← e1] using q), ?_⟩
        rw [e4]
        exact hv
      · rw [valV_neg (p := (k1, v1)) q, List.find?_cons_of_neg (by simpa [← e1] using q)]
        exact val_rest ⟨e2, by rw [e5]; exact ht⟩ k
/-- what the law's own call tells -/
def lnames (told : List Str) (kept given : Str) : List Str := told.map fun (w : Str) => if w = "+given" then given else if w = "+kept" then kept else w
def lcallOf (rs : List Rl) (cs : List Str) (st : Int) (kept door given : Str) : Dat := match ruleOf rs (.str door) (.int st) (.str (kindOf cs given)) with
  | none => .tup [.int st, .str kept, .lst []]
  | some r => .tup [.int r.later, .str (if r.keeps then given else kept), .lst (((lnames r.told kept given).filter fun (s : Str) => decide (s ≠ "")).map .str)]
def spLCall (K : PySem.W.Frag) : Sp := fun vs H Q _ => ∃ (g : Addr) (st : Int) (kept door given : Str) (n : Int) (ds cs : List Str) (rs : List Rl), vs = [.ref g, .int st, .str kept, .str door, .str given] ∧ LGF K H g n ds cs rs ∧ (∀ r ∈ rs, r.told.length ≤ 100) ∧
  ∀ v H', Same H H' → Rep K H' v (lcallOf rs cs st kept door given) → Q v H'
section
variable {P : Program} {w : World} {K : PySem.W.Frag} {mg : Str → Option Value} {base : Heap}
abbrev s_law_kind : Stmt := top 24
theorem sc_law_kind : FnScope ["gate", "given"] ["gate", "given"] (defScope s_law_kind) := ⟨rfl, rfl, rfl, by decide +kernel, rfl, by decide +kernel, by decide +kernel⟩
theorem ok_law_kind {f : Addr} {fd : FuncData} (F : Fun K "_law_kind" "_law_kind" s_law_kind f fd) : Fn P w K mg base CX0 1 f fd ["gate", "given"] spLKind := by
  refine fn_calm F sc_law_kind (fun vs H Q E h => ?_) (fun cdv A outer s H vs Q E hc hr h => ?_)
  · obtain ⟨g, r, s, n, ds, cs, rfl, _⟩ := h
    rfl
  · obtain ⟨g, r, s, n, ds, cs, rfl, lg, k⟩ := h
    have hu := hu_of hr
    obtain ⟨d, c, hg, hd, hC⟩ := lg.ex
    refine ⟨_, (pss_one (ps_ret (pe_ifExp (PW.pt (pw_or (pt_cmpR op_eq (pv 1) pe_str (nomark _)) (pw_or1 (pt_cmpR op_in_seq (pv 1) (pe_dget hu (pv 0) pe_str (fun _ _ => rfl)) (by rfl))))) (pv 1) pe_str))), ?_⟩
    unfold kindOf at k
    refine ⟨_, rfl, rfl, _, rfl, ?_⟩
    refine ite2 (fun e => ?_) (fun e => ?_)
    · refine iteT ?_
      refine ⟨_, rfl, ?_⟩
      rw [if_pos (.inl (V.str.inj (of_decide_eq_true e)))] at k
      exact k
    · have ng : ¬ s = "" := fun z => e (decide_eq_true (by rw [z]))
      refine ⟨_, rfl, _, rfl, g, _, rfl, dg hg (lg_closet n d c r), c, _, rfl, .inl (SqL.of hC), rfl, flat_strs _, _, rfl, ?_⟩
      rw [inV_str]
      refine ite2 (fun e2 => ?_) (fun e2 => ?_)
      · refine ⟨_, rfl, ?_⟩
        rw [if_pos (.inr (by simpa using e2))] at k
        exact k
      · rw [if_neg (fun z => by
          rcases z with z | z
          · exact ng z
          · exact e2 (by simpa using z))] at k
        exact k
abbrev s_law_call : Stmt := top 25
theorem sc_law_call : FnScope ["gate", "state", "kept", "door", "given", "rest", "names", "word", "name"] ["gate", "state", "kept", "door", "given"] (defScope s_law_call) := ⟨rfl, rfl, rfl, by decide +kernel, rfl, by decide +kernel, by decide +kernel⟩
theorem ok_law_call {f : Addr} {fd : FuncData} (F : Fun K "_law_call" "_law_call" s_law_call f fd) (T : Bl mg)
    (D_law_kind : Def P w K mg base 1 "_law_kind" ["gate", "given"] spLKind) : Fn P w K mg base CX0 2 f fd ["gate", "state", "kept", "door", "given"] (spLCall K) := by
  refine fn_calm F sc_law_call (fun vs H Q E h => ?_) (fun cdv A outer s H vs Q E hc hr h => ?_)
  · obtain ⟨g, st, kept, door, given, n, ds, cs, rs, rfl, _⟩ := h
    rfl
  · obtain ⟨g, st, kept, door, given, n, ds, cs, rs, rfl, lgf, tl, k⟩ := h
    have hu := hu_of hr
    obtain ⟨r, kvs, lg, hR, lr⟩ := lgf.ex
    obtain ⟨d, c, hg, hd, hC⟩ := lg.ex
    refine ⟨_, (pss_cons (ps_set (i := 5) sc_law_call.nd rfl (Or.inl rfl) (pe_dget2 hu (pe_dget hu (pv 0) pe_str (fun _ _ => rfl)) (pe_tup (pa_cons (pv 3) (pa_cons (pv 1) (pa_cons (pe_def D_law_kind hc (hr.mono (by decide)) (pa_cons (pv 0) (pa_cons (pv 4) pa_nil))) pa_nil)))) pe_non ⟨by rfl, by rfl, by rfl, by rfl⟩))
 (pss_cons (ps_if (pt_cmpR op_isN (pv 5) pe_non (nomark _))
  (pss_one (ps_ret (pe_tup (pa_cons (pv 1) (pa_cons (pv 2) (pa_cons (pe_lst pa_nil) pa_nil))))))
  pss_nil)
 (pss_cons (ps_set (i := 6) sc_law_call.nd rfl (Or.inl rfl) (pe_lst pa_nil))
 (pss_cons (ps_for PassesOwn.never rfl (pi_tup (pe_ix ix_tup (pv 5) pe_int (fun _ _ => rfl))) (pg_name (i := 7) sc_law_call.nd rfl (Or.inl rfl))
  (pss_one (ps_expr (pe_bm PySem.F.plainAttrs_list PySem.F.slot_list_append PySem.F.type_list_append mt_append (pv 6) (pa_cons (pe_ifExp (pt_cmpR op_eq (pv 7) pe_str (nomark _)) (pv 4) (pe_ifExp (pt_cmpR op_eq (pv 7) pe_str (nomark _)) (pv 2) (pv 7))) pa_nil)))))
 (pss_one (ps_ret (pe_tup (pa_cons (pe_ix ix_tup (pv 5) pe_int (fun _ _ => rfl)) (pa_cons (pe_ifExp (pt_val (pe_ix ix_tup (pv 5) pe_int (fun _ _ => rfl))) (pv 4) (pv 2)) (pa_cons (pe_lc (own := [("name", 8)]) (g := gName 8)  rfl sc_law_call.nd (pi_list (pv 6)) (blkOk_by (N := ["gate", "state", "kept", "door", "given", "rest", "names", "word", "name"]) (sc := defScope s_law_call) (by decide +kernel)) (fun _ _ _ _ _ => (pg_name (i := 8) sc_law_call.nd rfl (Or.inl rfl))) (fun _ _ _ _ _ => (pts_one (pt_cmpR op_ne (pv 8) pe_str (nomark _)))) (fun _ _ _ _ _ => (pv 8))) pa_nil)))))))))), ?_⟩
    refine ⟨_, rfl, g, _, rfl, dg hg (lg_rules n d c r), r, rfl, .inr ⟨kvs, .inl hR⟩, _, rfl, _, rfl, _, rfl, _, rfl, g, r, given, n, ds, cs, rfl, lg, by show 3 ≤ sizeLine; decide, fun q hq => ?_⟩
    have sq := same_upd (o := .tup [V.str door, V.int st, V.str (kindOf cs given)]) hq
    refine ⟨_, .inr ⟨kvs, [.inr door, .inl st, .inr (kindOf cs given)], q, .inl (sq _ _ hR), rfl, upd_same, rfl⟩, ?_⟩
    unfold lcallOf at k
    generalize upd H q (.tup [V.str door, V.int st, V.str (kindOf cs given)]) = H1 at sq
    rcases val_rest (lr.mono sq) [.inr door, .inl st, .inr (kindOf cs given)] with ⟨v, ru, ev, ef, rv⟩ | ⟨ev, ef⟩
    · rw [show ruleOf rs (.str door) (.int st) (.str (kindOf cs given)) = some ru from ef] at k
      rw [ev]
      have mr : ru ∈ rs := List.mem_of_find?_eq_some ef
      have lt := tl ru mr
      obtain ⟨p, _, rfl, hp, v1, _, rfl, e1, v2, _, rfl, e2, v3, _, rfl, e3, rfl⟩ := rv
      obtain rfl : v1 = .int ru.later := e1
      obtain rfl : v2 = .bl ru.keeps := e2
      obtain ⟨q3, ws', rfl, hq3, ht⟩ := e3
      obtain rfl := RepAll.strs ht
      refine ⟨_, rfl, rfl, _, rfl, ?_⟩
      refine iteF ?_
      refine ⟨by decide, fun D hD => ?_⟩
      have sD := same_upd (o := .lst []) hD
      refine ⟨_, rfl, p, _, 2, .ref q3, rfl, rfl, SqT.of (sD _ _ hp), rfl, q3, rfl, ⟨_, SqT.of (sD _ _ hq3)⟩,
        for_tup (K := K) (a := q3) (xs := ru.told.map .str) (fun i σ H' => ∃ (o7 : Option V), σ = [some (.ref g), some (.int st), some (.str kept), some (.str door), some (.str given), some (.ref p), some (.ref D), o7, none] ∧
          Same H1 H' ∧ H' D = some (.lst ((lnames (ru.told.take i) kept given).map .str))) ⟨none, rfl, sD, upd_same⟩ (fun i σ H' _ h => ?_) ?_ ?_⟩
      · obtain ⟨_, _, h, _⟩ := h
        exact SqT.of (h _ _ hq3)
      · rintro i y σ H' hy ⟨o7, rfl, sH, aD⟩
        obtain ⟨u, hu', rfl⟩ : ∃ u, ru.told[i]? = some u ∧ y = V.str u := by
          rw [List.getElem?_map] at hy
          cases e : ru.told[i]? with
          | none => rw [e] at hy; cases hy
          | some u => rw [e] at hy; exact ⟨u, rfl, (Option.some.inj hy).symm⟩
        have lz : ((lnames (ru.told.take i) kept given).map V.str).length < sizeLine := by
          rw [List.length_map, lnames, List.length_map, List.length_take]
          exact Nat.lt_of_le_of_lt (Nat.le_trans (Nat.min_le_right _ _) lt) (by decide)
        have add : ∀ z : Str, z = (if u = "+given" then given else if u = "+kept" then kept else u) →
            Same H1 (upd H' D (.lst ((lnames (ru.told.take i) kept given).map V.str ++ [V.str z]))) ∧ (upd H' D (.lst ((lnames (ru.told.take i) kept given).map V.str ++ [V.str z]))) D = some (.lst ((lnames (ru.told.take (i + 1)) kept given).map .str)) := by
          rintro z rfl
          refine ⟨fun b o' eb => ?_, ?_⟩
          · rw [upd_ne (ne_of_none eb hD)]
            exact sH _ _ eb
          · rw [upd_same]
            unfold lnames
            rw [List.take_add_one, hu', List.map_append, List.map_append]
            rfl
        refine ⟨_, rfl, .inl ⟨rfl, _, SqL.of aD⟩, _, rfl, rfl, _, rfl, ?_⟩
        refine ite2 (fun eg => ?_) (fun eg => ?_)
        · have eu : u = "+given" := V.str.inj (of_decide_eq_true eg)
          exact ⟨_, rfl, D, _, _, rfl, rfl, aD, lz, _, rfl, add _ (by rw [if_pos eu])⟩
        · have nu : ¬ u = "+given" := fun z => eg (decide_eq_true (by rw [z]))
          refine ⟨_, rfl, rfl, _, rfl, ?_⟩
          refine ite2 (fun ek => ?_) (fun ek => ?_)
          · have uk : u = "+kept" := V.str.inj (of_decide_eq_true ek)
            exact ⟨_, rfl, D, _, _, rfl, rfl, aD, lz, _, rfl, add _ (by rw [if_neg nu, if_pos uk])⟩
          · have nk : ¬ u = "+kept" := fun z => ek (decide_eq_true (by rw [z]))
            exact ⟨_, rfl, D, _, _, rfl, rfl, aD, lz, _, rfl, add _ (by rw [if_neg nu, if_neg nk])⟩
      · rintro σ H' ⟨o7, rfl, sH, aD⟩
        rw [List.length_map, List.take_length] at aD
        have ln : (lnames ru.told kept given).length ≤ 100 := by rw [lnames, List.length_map]; exact lt
        have fin : ∀ v, v = V.str (if ru.keeps = true then given else kept) → ∀ (D2 : Addr) (H2 : Hp), Same H' H2 → H2 D2 = some (.lst (((lnames ru.told kept given).filter fun (s : Str) => decide (s ≠ "")).map .str)) →
            ∀ t, H2 t = none → Q (.ref t) (upd H2 t (.tup [.int ru.later, v, .ref D2])) := by
          rintro _ rfl D2 H2 s2 a2 t ht'
          have st' := same_upd (o := .tup [.int ru.later, V.str (if ru.keeps = true then given else kept), .ref D2]) ht'
          exact k _ _ (((sq.trans sH).trans s2).trans st') ⟨t, _, rfl, upd_same, _, _, rfl, rfl, _, _, rfl, rfl, _, _, rfl, ⟨D2, _, rfl, st' _ _ a2, RepAll.of_strs _⟩, rfl⟩
        refine ⟨_, rfl, p, _, 0, _, rfl, rfl, SqT.of (sH _ _ hp), rfl, _, rfl, p, _, 1, _, rfl, rfl, SqT.of (sH _ _ hp), rfl, _, rfl, ?_⟩
        have ef : ∀ ws : List Str, (ws.filterMap fun (s : Str) => if s ≠ "" then some (V.str s) else none) = (ws.filter fun (s : Str) => decide (s ≠ "")).map V.str := by
          intro ws
          induction ws with
          | nil => rfl
          | cons w ws ih =>
            by_cases z : w = ""
            · rw [List.filterMap_cons, List.filter_cons, if_neg (by simp [z]), ih, if_neg (by simp [z])]
            · rw [List.filterMap_cons, List.filter_cons, if_pos z, ih, if_pos (by simp [z])]
              rfl
        refine ite2 (fun e => ?_) (fun e => ?_)
        · refine ⟨_, rfl, _, rfl, D, rfl, ⟨_, SqL.of aD⟩, fun D2 hD2 => lc_sel (walk_list (xs := (lnames ru.told kept given).map .str)) (lnames ru.told kept given) (fun (s : Str) => if s ≠ "" then some (.str s) else none) (by rw [List.length_map]) (by rw [List.length_map]; exact Nat.lt_of_le_of_lt ln (by decide)) hD2 (fun H2 s => SqL.of (s _ _ aD)) ?_ ?_⟩
          · rintro j w0 y H2 H3 Kt Kf hw hs ⟨rfl, hy⟩ kt kf
            have hy' : y = V.str w0 := by
              rw [List.getElem?_map, hw] at hy
              exact (Option.some.inj hy).symm
            subst hy'
            refine ⟨rfl, _, rfl, rfl, _, rfl, ?_⟩
            refine ite2 (fun e0 => ?_) (fun e0 => ?_)
            · have nz : w0 ≠ "" := fun z => by rw [z] at e0; exact absurd e0 (by decide +kernel)
              exact ⟨_, rfl, kt _ _ (.refl _) (by rw [if_pos nz])⟩
            · have z : w0 = "" := Classical.byContradiction fun z => e0 (by simp [z])
              exact kf _ (.refl _) (by rw [if_neg (fun q => q z)])
          · intro H2 s2 a2
            rw [ef] at a2
            exact ⟨by show 3 ≤ sizeLine; decide, fin _ (by rw [if_pos e]) D2 H2 s2 a2⟩
        · refine ⟨_, rfl, _, rfl, D, rfl, ⟨_, SqL.of aD⟩, fun D2 hD2 => lc_sel (walk_list (xs := (lnames ru.told kept given).map .str)) (lnames ru.told kept given) (fun (s : Str) => if s ≠ "" then some (.str s) else none) (by rw [List.length_map]) (by rw [List.length_map]; exact Nat.lt_of_le_of_lt ln (by decide)) hD2 (fun H2 s => SqL.of (s _ _ aD)) ?_ ?_⟩
          · rintro j w0 y H2 H3 Kt Kf hw hs ⟨rfl, hy⟩ kt kf
            have hy' : y = V.str w0 := by
              rw [List.getElem?_map, hw] at hy
              exact (Option.some.inj hy).symm
            subst hy'
            refine ⟨rfl, _, rfl, rfl, _, rfl, ?_⟩
            refine ite2 (fun e0 => ?_) (fun e0 => ?_)
            · have nz : w0 ≠ "" := fun z => by rw [z] at e0; exact absurd e0 (by decide +kernel)
              exact ⟨_, rfl, kt _ _ (.refl _) (by rw [if_pos nz])⟩
            · have z : w0 = "" := Classical.byContradiction fun z => e0 (by simp [z])
              exact kf _ (.refl _) (by rw [if_neg (fun q => q z)])
          · intro H2 s2 a2
            rw [ef] at a2
            exact ⟨by show 3 ≤ sizeLine; decide, fin _ (by rw [if_neg e]) D2 H2 s2 a2⟩
    · rw [show ruleOf rs (.str door) (.int st) (.str (kindOf cs given)) = none from ef] at k
      rw [ev]
      refine ⟨_, rfl, rfl, _, rfl, ?_⟩
      refine iteT ?_
      refine ⟨_, rfl, _, rfl, by decide, fun p hp => ⟨by show 3 ≤ sizeLine; decide, fun t ht => ?_⟩⟩
      have s2 := same_upd (o := .lst []) hp
      have s3 := same_upd (o := .tup [V.int st, V.str kept, V.ref p]) ht
      exact k _ _ ((sq.trans s2).trans s3) ⟨t, _, rfl, upd_same, _, _, rfl, rfl, _, _, rfl, rfl, _, _, rfl, ⟨p, [], rfl, s3 _ _ upd_same, rfl⟩, rfl⟩
end
end K

set_option Elab.async false
set_option linter.all false
set_option maxRecDepth 100000
set_option maxHeartbeats 8000000
namespace K
open PySem PySem.Spec PyProof.Rows L2 G D L S C Sx Kx Ex Lt
open Fz hiding Fr
open C8 (pss_cut tCut)
/-- the Gate's call and the law's own tell the same -/
theorem told_eq {kept given : Str} : ∀ {told : List Str}, (∀ w ∈ told, w = "+given" → given ≠ "") → (∀ w ∈ told, w ≠ "") →
    toldOf told kept given = (lnames told kept given).filter fun (s : Str) => decide (s ≠ "")
  | [], _, _ => rfl
  | w :: told, h1, h2 => by
    have ih := told_eq (kept := kept) (given := given) (told := told) (fun x hx => h1 x (List.mem_cons_of_mem _ hx)) fun x hx => h2 x (List.mem_cons_of_mem _ hx)
    have e1 : toldOf (w :: told) kept given = (if w = "+given" then [given] else if w ≠ "+kept" then [w] else if kept ≠ "" then [kept] else []) ++ toldOf told kept given := by
      unfold toldOf
      rw [List.flatMap_cons]
    have e2 : lnames (w :: told) kept given = (if w = "+given" then given else if w = "+kept" then kept else w) :: lnames told kept given := rfl
    rw [e1, e2, List.filter_cons, ih]
    by_cases g : w = "+given"
    · rw [if_pos g, if_pos g, if_pos (by simpa using h1 w List.mem_cons_self g)]
      rfl
    · rw [if_neg g, if_neg g]
      by_cases q : w = "+kept"
      · rw [if_neg (fun z => z q), if_pos q]
        by_cases z : kept = ""
        · rw [if_neg (fun y => y z), if_neg (by simp [z])]
          rfl
        · rw [if_pos z, if_pos (by simpa using z)]
          rfl
      · rw [if_pos q, if_neg q, if_pos (by simpa using h2 w List.mem_cons_self)]
        rfl
theorem call_eq {n : Int} {ds cs : List Str} {rs : List Rl} (ok : ∀ r ∈ rs, r.Ok n ds cs) (nc : Names cs) (st : Int) (kept door given : Str) : callOf rs cs st kept door given = lcallOf rs cs st kept door given := by
  unfold callOf lcallOf
  cases e : ruleOf rs (.str door) (.int st) (.str (kindOf cs given)) with
  | none => rfl
  | some r =>
    have hf : rs.find? (fun r => decide (r.key = [.inr door, .inl st, .inr (kindOf cs given)])) = some r := e
    have mr := List.mem_of_find?_eq_some hf
    have ek := List.find?_some hf
    have ek : r.key = [.inr door, .inl st, .inr (kindOf cs given)] := of_decide_eq_true ek
    have okr := ok r mr
    have ekind : r.kind = kindOf cs given := by
      have := congrArg (fun l => l[2]?) ek
      simp only [Rl.key] at this
      exact Sum.inr.inj (Option.some.inj this)
    have nog : ("+given" : Str) ∉ cs := fun z => absurd (nc.ok _ z) (by decide +kernel)
    have noe : ("" : Str) ∉ cs := fun z => absurd (nc.ok _ z) (by decide +kernel)
    have h1 : ∀ w ∈ r.told, w = "+given" → given ≠ "" := by
      rintro w hw rfl rfl
      have k0 : r.kind = "" := by rw [ekind]; unfold kindOf; rw [if_pos (.inl rfl)]
      rcases List.mem_append.mp ((okr.told0 k0).2 _ hw) with z | z
      · exact nog z
      · rw [List.mem_singleton] at z
        exact absurd z (by decide +kernel)
    have h2 : ∀ w ∈ r.told, w ≠ "" := by
      rintro w hw rfl
      rcases List.mem_append.mp (okr.told1 _ hw) with z | z
      · exact noe z
      · simp only [List.mem_cons, List.not_mem_nil, or_false] at z
        rcases z with z | z <;> exact absurd z (by decide +kernel)
    show Dat.tup _ = Dat.tup _
    rw [told_eq h1 h2]
end K

set_option Elab.async false
set_option linter.all false
set_option maxRecDepth 100000
set_option maxHeartbeats 4000000
/-! A list of texts and numbers beside a list of any data, by ==. -/
namespace Qe
open PySem PySem.Spec PyProof.Rows L2 G D L S C Sx Kx
open PySem.SeqAt
theorem dict_declines_int (l : Addr) (es : Array DictEntry) (n : Nat) (dd : Option Addr) (sl : Array (Option Value)) (b : Int) (u : Tok) :
    Meets (Builtin.«dict.__eq__» ⟨[.ref l, .int b u], []⟩)
      (fun _ R s => s.heap.get? l = some { cls := .type "dict", dict := dd, data := .dict es n, slots := sl } ∧ R (.ok (.ret .notImplemented)) s) :=
  .of_wp fun prog w A R s h => by
    obtain ⟨hp, g, d, tk, os⟩ := s
    obtain ⟨hl, h⟩ := h
    have f1 := F.sub_int_dict
    wp_walk using wpAny_loadPart' hl
    exact ⟨_, rfl, h⟩
theorem int_declines_dict (b : Int) (u : Tok) (l : Addr) (es : Array DictEntry) (n : Nat) (dd : Option Addr) (sl : Array (Option Value)) :
    Meets (Builtin.«int.__eq__» ⟨[.int b u, .ref l], []⟩)
      (fun _ R s => s.heap.get? l = some { cls := .type "dict", dict := dd, data := .dict es n, slots := sl } ∧ R (.ok (.ret .notImplemented)) s) :=
  .of_wp fun prog w A R s h => by
    obtain ⟨hp, g, d, tk, os⟩ := s
    obtain ⟨hl, h⟩ := h
    wp_walk using wpAny_loadPart' hl, wpAny_load hl
    exact ⟨_, rfl, h⟩
section
variable {A : Around} {s : Shared} {l : Addr} {o : Obj} {es : Array DictEntry} {n : Nat}
theorem rc_str_dict (b : Str) (u : Tok) (ho : s.heap.get? l = some o) (hx : o.cls = .type "dict") (hd : o.data = .dict es n) (hu : A.units < cLine) : RcAt A s (.str b u) (.ref l) false := fun prog w E Q h => by
  obtain ⟨cls, dd, data, sl⟩ := o
  simp only at hx hd
  subst hx hd
  exact rc_eq_decline_or (k := false) (typeIs_str s b u) ⟨_, ho, rfl⟩ (by decide) F.sub_dict_str F.slot_str_eq_refl F.slot_dict_eq
    (fun _ hq => call_meets F.slot_str_eq_refl (typeIs_str s b u) F.entry_str_eq (F.args_str_eq_2 _ _) (str_declines_dict b u l es n dd sl) ⟨ho, hq⟩)
    (fun _ hq => call_meets F.slot_dict_eq ⟨_, ho, rfl⟩ F.entry_dict_eq (F.args_dict_eq_2 _ _) (dict_declines_str l es n dd sl b u) ⟨ho, hq⟩)
    (fun _ hq => wpAny_of_eq (rfl : isSame (.str b u) (.ref l) = pure false) hq) (.inr hu) h
theorem rc_int_dict (b : Int) (u : Tok) (ho : s.heap.get? l = some o) (hx : o.cls = .type "dict") (hd : o.data = .dict es n) (hu : A.units < cLine) : RcAt A s (.int b u) (.ref l) false := fun prog w E Q h => by
  obtain ⟨cls, dd, data, sl⟩ := o
  simp only at hx hd
  subst hx hd
  exact rc_eq_decline_or (k := false) (typeIs_int s b u) ⟨_, ho, rfl⟩ (by decide) F.sub_dict_int F.slot_int_eq F.slot_dict_eq
    (fun _ hq => call_meets F.slot_int_eq (typeIs_int s b u) F.entry_int_eq (F.args_int_eq_2 _ _) (int_declines_dict b u l es n dd sl) ⟨ho, hq⟩)
    (fun _ hq => call_meets F.slot_dict_eq ⟨_, ho, rfl⟩ F.entry_dict_eq (F.args_dict_eq_2 _ _) (dict_declines_int l es n dd sl b u) ⟨ho, hq⟩)
    (fun _ hq => wpAny_of_eq (rfl : isSame (.int b u) (.ref l) = pure false) hq) (.inr hu) h
theorem eq_str_dict (b : Str) (u : Tok) (ho : s.heap.get? l = some o) (hx : o.cls = .type "dict") (hd : o.data = .dict es n) (hu : A.units < cLine) : EqAt A s (.str b u) (.ref l) false := fun prog w E Q h => by
  unfold eqBool
  refine wpAny_holding ?_
  refine wpAny_ite_split (fun hab => absurd (eq_of_beq hab) nofun) (fun _ => ?_)
  exact wpAny_bind (rc_str_dict b u ho hx hd hu prog w E _ (wpAny_truthy_bool h))
theorem eq_int_dict (b : Int) (u : Tok) (ho : s.heap.get? l = some o) (hx : o.cls = .type "dict") (hd : o.data = .dict es n) (hu : A.units < cLine) : EqAt A s (.int b u) (.ref l) false := fun prog w E Q h => by
  unfold eqBool
  refine wpAny_holding ?_
  refine wpAny_ite_split (fun hab => absurd (eq_of_beq hab) nofun) (fun _ => ?_)
  exact wpAny_bind (rc_int_dict b u ho hx hd hu prog w E _ (wpAny_truthy_bool h))
end
/-- a text or a number is equal to a datum -/
def scalEq : V → Dat → Bool
  | .str t, .str x => t == x
  | .int i, .int j => i == j
  | .int i, .bl b => i == (if b then 1 else 0)
  | _, _ => false
section
variable {X : Cx} {pins : List (Addr × Obj)} {σ : L2.St} {H : Hp} {s : Shared}
theorem eqAt_str (I : Inv X pins σ H s) {A : Around} (hu : A.units < cLine) {d : Dat} {v : V} {u : Value} (t : Str) (tk : Tok) (h : Rep X.K H v d) (hn : d.noObj = true) (r : RelV v u) : EqAt A s (.str t tk) u (scalEq (.str t) d) := by
  cases d with
  | non =>
    cases (show v = V.non from h)
    cases (show u = _ from r)
    exact .str_none t tk
  | bl b =>
    cases (show v = V.bl b from h)
    cases (show u = _ from r)
    exact .str_bool t tk b
  | int i =>
    cases (show v = V.int i from h)
    obtain ⟨k, rfl⟩ := (show ∃ t, u = Value.int i t from r)
    exact .str_int t tk i k
  | str x =>
    cases (show v = V.str x from h)
    obtain ⟨k, rfl⟩ := (show ∃ t, u = Value.str x t from r)
    exact .str_str t tk x k
  | lst ds =>
    obtain ⟨a, xs, rfl, e, _⟩ := h
    cases (show u = Value.ref a from r)
    obtain ⟨_, its, n, rv, ho⟩ := (show ObjOk X.prog X.w H s.heap a (.lst xs) from I.hok a _ e)
    exact .str_list t tk ⟨_, ho, rfl, _, rfl⟩ hu
  | tup ds =>
    obtain ⟨a, xs, rfl, e, _⟩ := h
    cases (show u = Value.ref a from r)
    obtain ⟨_, its, rv, o, ho, hc, n, hd⟩ := (show ObjOk X.prog X.w H s.heap a (.tup xs) from I.hok a _ e)
    exact .str_tuple (items := its.toArray) t tk ⟨o, ho, hc, n, hd⟩ hu
  | dct ks ds =>
    obtain ⟨a, kvs, rfl, e, _⟩ := h
    cases (show u = Value.ref a from r)
    obtain ⟨_, _, vs, rv, o, es, ep, ho, hx, hd, _⟩ := (show ObjOk X.prog X.w H s.heap a (.dK kvs) from I.hok a _ e)
    exact eq_str_dict t tk ho hx.1 hd hu
  | obj C a => cases (show false = true from hn)
theorem eqAt_int (I : Inv X pins σ H s) {A : Around} (hu : A.units < cLine) {d : Dat} {v : V} {u : Value} (i : Int) (tk : Tok) (h : Rep X.K H v d) (hn : d.noObj = true) (r : RelV v u) : EqAt A s (.int i tk) u (scalEq (.int i) d) := by
  cases d with
  | non =>
    cases (show v = V.non from h)
    cases (show u = _ from r)
    exact .int_none i tk
  | bl b =>
    cases (show v = V.bl b from h)
    cases (show u = _ from r)
    exact .int_bool i tk b
  | int j =>
    cases (show v = V.int j from h)
    obtain ⟨k, rfl⟩ := (show ∃ t, u = Value.int j t from r)
    exact .int_int i tk j k
  | str x =>
    cases (show v = V.str x from h)
    obtain ⟨k, rfl⟩ := (show ∃ t, u = Value.str x t from r)
    exact .int_str i tk x k
  | lst ds =>
    obtain ⟨a, xs, rfl, e, _⟩ := h
    cases (show u = Value.ref a from r)
    obtain ⟨_, its, n, rv, ho⟩ := (show ObjOk X.prog X.w H s.heap a (.lst xs) from I.hok a _ e)
    exact .int_list i tk ⟨_, ho, rfl, _, rfl⟩ hu
  | tup ds =>
    obtain ⟨a, xs, rfl, e, _⟩ := h
    cases (show u = Value.ref a from r)
    obtain ⟨_, its, rv, o, ho, hc, n, hd⟩ := (show ObjOk X.prog X.w H s.heap a (.tup xs) from I.hok a _ e)
    exact .int_tuple (items := its.toArray) i tk ⟨o, ho, hc, n, hd⟩ hu
  | dct ks ds =>
    obtain ⟨a, kvs, rfl, e, _⟩ := h
    cases (show u = Value.ref a from r)
    obtain ⟨_, _, vs, rv, o, es, ep, ho, hx, hd, _⟩ := (show ObjOk X.prog X.w H s.heap a (.dK kvs) from I.hok a _ e)
    exact eq_int_dict i tk ho hx.1 hd hu
  | obj C a => cases (show false = true from hn)
end
section
variable {X : Cx}
/-- a list of texts and numbers == a list of data -/
def rEqScal (K : PySem.W.Frag) : R2 := fun x y H Q => ∃ (p q : Addr) (xs ys : List V) (ds : List Dat), x = .ref p ∧ y = .ref q ∧ H p = some (.lst xs) ∧ H q = some (.lst ys) ∧ RepAll K H ys ds ∧ xs.length = ds.length ∧
  (∀ x ∈ xs, (∃ t, x = .str t) ∨ ∃ i, x = .int i) ∧ (∀ d ∈ ds, d.noObj = true) ∧ Q (.bl ((List.range xs.length).all fun j => scalEq (xs.getD j .non) (ds.getD j .non))) H
theorem op_eqScal (hu : X.A.units + 65 < cLine) : OpR X (compareOp .Eq) (rEqScal X.K) := by
  intro pins s σ H x y v u Q I rx ry h
  obtain ⟨p, q, xs, ys, ds, rfl, rfl, hp, hq, hr, hl, hx, hn, k⟩ := h
  cases (show v = Value.ref p from rx)
  cases (show u = Value.ref q from ry)
  obtain ⟨z1, is1, n1, rv1, ho1⟩ := (show ObjOk X.prog X.w H s.heap p (.lst xs) from I.hok p _ hp)
  obtain ⟨z2, is2, n2, rv2, ho2⟩ := (show ObjOk X.prog X.w H s.heap q (.lst ys) from I.hok q _ hq)
  have l1 := rv1.length
  have l2 := rv2.length
  have ly := hr.length
  have hin1 : X.A.in1.units < cLine := by simp [Around.in1]; omega
  refine eq_listAt (e := fun j => scalEq (xs.getD j .non) (ds.getD j .non)) ⟨_, ho1, rfl, n1, rfl⟩ ⟨_, ho2, rfl, n2, rfl⟩ (by rw [List.size_toArray, List.size_toArray, ← l1, ← l2, hl, ly]) (by omega) (fun j h1 h2 => ?_) ⟨.bl _, H, I, rfl, ?_⟩
  · rw [List.size_toArray] at h1 h2
    have jx : j < xs.length := by omega
    have jd : j < ds.length := by omega
    have ex : xs[j]? = some xs[j] := List.getElem?_eq_getElem jx
    have ed : ds[j]? = some ds[j] := List.getElem?_eq_getElem jd
    obtain ⟨w1, ew1, r1⟩ := rv1.get ex
    obtain ⟨y, ey, ry'⟩ := hr.nth ed
    obtain ⟨w2, ew2, r2⟩ := rv2.get ey
    have e1 : is1.toArray[j] = w1 := by
      have := List.getElem?_eq_getElem h1
      rw [ew1] at this
      simpa using (Option.some.inj this).symm
    have e2 : is2.toArray[j] = w2 := by
      have := List.getElem?_eq_getElem h2
      rw [ew2] at this
      simpa using (Option.some.inj this).symm
    rw [e1, e2]
    show EqAt X.A.in1 s w1 w2 (scalEq (xs.getD j .non) (ds.getD j .non))
    rw [show xs.getD j .non = xs[j] by simp [List.getD, ex], show ds.getD j .non = ds[j] by simp [List.getD, ed]]
    rcases hx _ (List.getElem_mem jx) with ⟨t, et⟩ | ⟨i, ei⟩
    · rw [et] at r1 ⊢
      obtain ⟨tk, rfl⟩ := (show ∃ t', w1 = Value.str t t' from r1)
      exact eqAt_str I hin1 t tk ry' (hn _ (List.getElem_mem jd)) r2
    · rw [ei] at r1 ⊢
      obtain ⟨tk, rfl⟩ := (show ∃ t', w1 = Value.int i t' from r1)
      exact eqAt_int I hin1 i tk ry' (hn _ (List.getElem_mem jd)) r2
  · rw [List.size_toArray, ← l1]
    exact k
end
end Qe

set_option Elab.async false
set_option linter.all false
set_option maxRecDepth 100000
set_option maxHeartbeats 8000000
namespace K
open PySem PySem.Spec PyProof.Rows L2 G D L S C Sx Kx Ex Lt Qe
open Fz hiding Fr
open C8 (pss_cut tCut)
theorem kind_perm {ws cs : List Str} (p : ws.Perm cs) (g : Str) : kindOf ws g = kindOf cs g := by
  unfold kindOf
  simp only [p.mem_iff]
theorem find_key {rs : List Rl} (nd : (rs.map Rl.key).Nodup) {k : List Key} {r : Rl} : rs.find? (fun r => decide (r.key = k)) = some r ↔ r ∈ rs ∧ r.key = k := by
  constructor
  · intro h
    exact ⟨List.mem_of_find?_eq_some h, by simpa using List.find?_some h⟩
  · rintro ⟨hm, rfl⟩
    induction rs with
    | nil => cases hm
    | cons q rs ih =>
      rw [List.map_cons, List.nodup_cons] at nd
      rcases List.mem_cons.mp hm with rfl | hm
      · rw [List.find?_cons_of_pos (by simp)]
      · have : ¬ q.key = r.key := fun z => nd.1 (by rw [z]; exact List.mem_map_of_mem hm)
        rw [List.find?_cons_of_neg (by simpa using this)]
        exact ih nd.2 hm
theorem find_perm {rs' rs : List Rl} (p : rs'.Perm rs) (nd : (rs.map Rl.key).Nodup) (k : List Key) : rs'.find? (fun r => decide (r.key = k)) = rs.find? (fun r => decide (r.key = k)) := by
  have nd' : (rs'.map Rl.key).Nodup := (p.map Rl.key).nodup_iff.mpr nd
  cases e : rs.find? (fun r => decide (r.key = k)) with
  | some r =>
    have := (find_key nd).mp e
    exact (find_key nd').mpr ⟨p.mem_iff.mpr this.1, this.2⟩
  | none =>
    cases e' : rs'.find? (fun r => decide (r.key = k)) with
    | none => rfl
    | some r =>
      have := (find_key nd').mp e'
      rw [(find_key nd).mpr ⟨p.mem_iff.mp this.1, this.2⟩] at e
      cases e
theorem rule_perm {rs' rs : List Rl} (p : rs'.Perm rs) (nd : (rs.map Rl.key).Nodup) (d1 d2 d3 : Dat) : ruleOf rs' d1 d2 d3 = ruleOf rs d1 d2 d3 := by
  unfold ruleOf
  split
  · exact find_perm p nd _
  · rfl
theorem call_perm {rs' rs : List Rl} {ws cs : List Str} (p : rs'.Perm rs) (q : ws.Perm cs) (nd : (rs.map Rl.key).Nodup) (st : Int) (kept door given : Str) : callOf rs' ws st kept door given = callOf rs cs st kept door given := by
  unfold callOf
  rw [kind_perm q, rule_perm p nd]
/-- three data are just that text, that number and that text -/
def keyIs (a : Str) (i : Int) (b : Str) : Dat → Dat → Dat → Bool
  | .str x, .int j, .str y => x == a && j == i && y == b
  | _, _, _ => false
theorem list3_len (s1 s2 s3 : Str) : (listText [s1, s2, s3]).length = s1.length + s2.length + s3.length + 6 := by
  simp only [listText, textFrom, Str.length_append]
  have e1 : ("[" : Str).length = 1 := by decide +kernel
  have e2 : ("]" : Str).length = 1 := by decide +kernel
  have e3 : (", " : Str).length = 2 := by decide +kernel
  have e4 : ("" : Str).length = 0 := by decide +kernel
  simp only [show ¬ (0 > 0) by decide, show (0 + 1 > 0) by decide, show (0 + 1 + 1 > 0) by decide, if_true, if_false, Str.length_append, e1, e2, e3, e4]
  omega
theorem bl_shown (c : Bool) : (PyData.bool c).shown.length ≠ (PyData.int (if c then 1 else 0)).shown.length := by
  cases c <;> decide +kernel
theorem key_alike (a : Str) (i : Int) (b : Str) (d1 d2 d3 : Dat) :
    ((scalEq (.str a) d1 && scalEq (.int i) d2 && scalEq (.str b) d3) && decide ((Dat.lst [.str a, .int i, .str b]).py.shown = (Dat.lst [d1, d2, d3]).py.shown)) = keyIs a i b d1 d2 d3 := by
  cases d1 with
  | str x =>
    cases d3 with
    | str y =>
      by_cases h1 : x = a
      · by_cases h3 : y = b
        · subst h1 h3
          cases d2 with
          | int j =>
            by_cases h2 : j = i
            · subst h2
              simp [scalEq, keyIs]
            · have e : (i == j) = false := beq_eq_false_iff_ne.mpr fun z => h2 z.symm
              have e' : (j == i) = false := beq_eq_false_iff_ne.mpr h2
              simp [scalEq, keyIs, e, e']
          | bl c =>
            show _ = false
            by_cases h2 : i = if c then 1 else 0
            · rw [decide_eq_false, Bool.and_false]
              intro z
              have z := congrArg Str.length z
              simp only [Dat.py, pyAll, PyData.shown, PyData.shownAll] at z
              rw [list3_len, list3_len] at z
              have q := bl_shown c
              rw [← h2] at q
              simp only [PyData.shown] at q
              omega
            · simp [scalEq, h2]
          | _ => simp [scalEq, keyIs]
        · have e : (b == y) = false := beq_eq_false_iff_ne.mpr fun z => h3 z.symm
          have e' : (y == b) = false := beq_eq_false_iff_ne.mpr h3
          cases d2 <;> simp [scalEq, keyIs, e, e']
      · have e : (a == x) = false := beq_eq_false_iff_ne.mpr fun z => h1 z.symm
        have e' : (x == a) = false := beq_eq_false_iff_ne.mpr h1
        cases d2 <;> simp [scalEq, keyIs, e, e']
    | _ => cases d2 <;> simp [scalEq, keyIs]
  | _ => cases d2 <;> cases d3 <;> simp [scalEq, keyIs]
end K

set_option Elab.async false
set_option linter.all false
set_option maxRecDepth 100000
set_option maxHeartbeats 8000000
namespace K
open PySem PySem.Spec PyProof.Rows L2 G D L S C Sx Kx Ex Lt Qe
open Fz hiding Fr
open C8 (pss_cut tCut)
/-- alike: the same data, or a key's list beside any three data -/
def spAlike2 (K : PySem.W.Frag) : Sp := fun vs H Q E => spAlike K vs H Q E ∨ ∃ (v u : V) (a : Str) (i : Int) (b : Str) (d1 d2 d3 : Dat), vs = [v, u] ∧ Rep K H v (.lst [.str a, .int i, .str b]) ∧ Rep K H u (.lst [d1, d2, d3]) ∧
  Fine 100 sizeLine (.lst [.str a, .int i, .str b]) ∧ Fine 100 sizeLine (.lst [d1, d2, d3]) ∧ Q (.bl (keyIs a i b d1 d2 d3)) H
def rOr (r1 r2 : R2) : R2 := fun x y H Q => r1 x y H Q ∨ r2 x y H Q
theorem op_or {X : Cx} {f : Value → Value → Sem Value} {r1 r2 : R2} (a : OpR X f r1) (b : OpR X f r2) : OpR X f (rOr r1 r2) := by
  intro pins s σ H x y v u Q I rx ry h
  rcases h with h | h
  · exact a pins s σ H x y v u Q I rx ry h
  · exact b pins s σ H x y v u Q I rx ry h
section
variable {P : Program} {w : World} {K : PySem.W.Frag} {mg : Str → Option Value} {base : Heap}
theorem ok_alike2 {f : Addr} {fd : FuncData} (F : Fun K "_law_alike" "_law_alike" s_law_alike f fd) (T : Bl mg) (hM : HasMods base) : Fn P w K mg base CX0 2 f fd ["found", "due"] (spAlike2 K) := by
  refine fn_calm F sc_law_alike (fun vs H Q E h => ?_) (fun cdv A outer s H vs Q E hc hr h => ?_)
  · rcases h with ⟨v, u, d, rfl, _⟩ | ⟨v, u, a, i, b, d1, d2, d3, rfl, _⟩ <;> rfl
  · have hu64 := hr.units
    have hu110 : (A.deeper (envOfC "_law_alike" (defScope s_law_alike) s.heap.objs.size f cdv)).units + 110 < cLine := by
      have := hr.un
      omega
    have hu65 : (A.deeper (envOfC "_law_alike" (defScope s_law_alike) s.heap.objs.size f cdv)).units + 65 < cLine := by omega
    refine ⟨_, (pss_one (ps_ret (pe_and (pe_cmpR (op_or (op_eqD hu64) (op_eqScal hu65)) (pv 0) (pv 1) (nomark _)) (pe_one (pe_cmpR op_eq (pe_callB (call_repr hc hM hu110) (by rfl) T.reprN (by decide +kernel) (pa_cons (pv 0) pa_nil)) (pe_callB (call_repr hc hM hu110) (by rfl) T.reprN (by decide +kernel) (pa_cons (pv 1) pa_nil)) (nomark _)))))), ?_⟩
    rcases h with ⟨v, u, d, rfl, hv, hu', hl, hf, k⟩ | ⟨v, u, a, i, b, d1, d2, d3, rfl, hv, hu', f1, f2, k⟩
    · have sh : SeqAt.shaped d.py = true := by
        unfold SeqAt.shaped
        rw [hl, decide_eq_true (Nat.le_trans hf.dp (by decide))]
        rfl
      refine ⟨_, rfl, _, rfl, .inl ⟨d.py, d.py, rep_dp d hv hf.pu hl, rep_dp d hu' hf.pu hl, sh, sh, _, rfl, ?_⟩⟩
      rw [SeqAt.eqv_refl _ hl]
      refine iteT ?_
      have hf' : Fine 100 sizeLine d := hf.mono (by decide) (Nat.le_refl _)
      refine ⟨_, rfl, v, d, rfl, hv, hf', _, rfl, u, d, rfl, hu', hf', rfl, ?_⟩
      rw [decide_eq_true rfl]
      exact k
    · obtain ⟨p, xs, rfl, hp, hxs⟩ := id hv
      obtain ⟨q, ys, rfl, hq, hys⟩ := id hu'
      obtain ⟨y1, _, rfl, e1, y2, _, rfl, e2, y3, _, rfl, e3, rfl⟩ := hxs
      obtain rfl : y1 = .str a := e1
      obtain rfl : y2 = .int i := e2
      obtain rfl : y3 = .str b := e3
      have pu : ∀ d ∈ [d1, d2, d3], d.noObj = true := by
        have pp : pureAll [d1, d2, d3] = true := f2.pu
        rw [pureAll_all] at pp
        intro d hd
        have := List.all_eq_true.mp pp d hd
        cases d <;> first | rfl | cases this
      rw [← key_alike] at k
      refine ⟨_, rfl, _, rfl, .inr ⟨p, q, _, _, [d1, d2, d3], rfl, rfl, hp, hq, hys, rfl, ?_, pu, _, rfl, ?_⟩⟩
      · intro x hx
        simp only [List.mem_cons, List.not_mem_nil, or_false] at hx
        rcases hx with rfl | rfl | rfl
        · exact .inl ⟨_, rfl⟩
        · exact .inr ⟨_, rfl⟩
        · exact .inl ⟨_, rfl⟩
      · have er : ((List.range [V.str a, V.int i, V.str b].length).all fun j => scalEq ([V.str a, V.int i, V.str b].getD j .non) ([d1, d2, d3].getD j .non)) = (scalEq (.str a) d1 && scalEq (.int i) d2 && scalEq (.str b) d3) := by
          show ((List.range 3).all _) = _
          simp [List.range_succ, Bool.and_assoc]
        rw [er]
        refine ite2 (fun e => ?_) (fun e => ?_)
        · rw [e, Bool.true_and] at k
          refine ⟨_, rfl, _, _, rfl, hv, f1, _, rfl, _, _, rfl, hu', f2, rfl, ?_⟩
          have ed : ∀ s t : Str, decide (V.str s = V.str t) = decide (s = t) := fun s t => by simp
          rw [ed]
          exact k
        · rw [show (scalEq (.str a) d1 && scalEq (.int i) d2 && scalEq (.str b) d3) = false by simpa using e, Bool.false_and] at k
          exact k
end
end K

set_option Elab.async false
set_option linter.all false
set_option maxRecDepth 100000
set_option maxHeartbeats 4000000
/-! sorted(..) of a dict whose keys are tuples. -/
namespace S
open PySem PySem.Spec PyProof.Rows L2 G D L
open PySem.W hiding Dat
/-- a key as a datum -/
def keyDat (k : List Key) : Dat := .tup (k.map fun q => match q with | .inl i => .int i | .inr x => .str x)
theorem rep_key {K : PySem.W.Frag} {H : Hp} {a : Addr} {k : List Key} (h : H a = some (.tup (k.map kV))) : Rep K H (.ref a) (keyDat k) := by
  refine ⟨a, _, rfl, h, ?_⟩
  clear h
  induction k with
  | nil => exact rfl
  | cons q k ih =>
    cases q with
    | inl i => exact ⟨_, _, rfl, rfl, ih⟩
    | inr x => exact ⟨_, _, rfl, rfl, ih⟩
theorem key_rep {K : PySem.W.Frag} {H : Hp} {v : V} {k : List Key} (h : Rep K H v (keyDat k)) : ∃ a, v = .ref a ∧ H a = some (.tup (k.map kV)) := by
  obtain ⟨a, xs, rfl, ha, hs⟩ := h
  refine ⟨a, rfl, ?_⟩
  rw [ha]
  clear ha
  have : xs = k.map kV := by
    induction k generalizing xs with
    | nil => exact hs
    | cons q k ih =>
      obtain ⟨v, r, rfl, hv, hr⟩ := hs
      rw [ih _ hr]
      cases q with
      | inl i => rw [show v = V.int i from hv]; rfl
      | inr x => rw [show v = V.str x from hv]; rfl
  rw [this]
theorem keys_rep {K : PySem.W.Frag} {H : Hp} {kvs : List (List Key × V)} {bs : List Addr} (h : IsKeys H kvs bs) : RepAll K H (bs.map V.ref) (kvs.map fun p => keyDat p.1) := by
  unfold IsKeys at h
  induction h with
  | nil => exact rfl
  | cons a _ ih => exact ⟨_, _, rfl, rep_key a, ih⟩
/-- what stands outside of F are no tuples -/
def TupF (F H : Hp) : Prop := ∀ p xs, H p = some (.tup xs) → F p = some (.tup xs)
theorem keys_in {K : PySem.W.Frag} {F H : Hp} (t : TupF F H) : ∀ {ks : List (List Key)} {xs : List V}, RepAll K H xs (ks.map keyDat) → RepAll K F xs (ks.map keyDat)
  | [], _, h => h
  | k :: ks, xs, ⟨v, r, e, h1, h2⟩ => by
    obtain ⟨a, rfl, ha⟩ := key_rep h1
    exact ⟨_, r, e, rep_key (t _ _ ha), keys_in t h2⟩
section
variable {X : Cx}
/-- sorted(..) of a dict with tuple keys -/
def rSortedT (K : PySem.W.Frag) : List V → Hp → VK → Prop := fun vs H Q => ∃ a kvs, vs = [.ref a] ∧ Rd H a (.dT kvs) ∧ Ord (kvs.map fun p => keyDat p.1) ∧
  ∀ p ys, H p = none → RepAll K H ys (sortD (kvs.map fun p => keyDat p.1)) → ys.length = kvs.length → Q (.ref p) (upd H p (.lst ys))
theorem call_sortedT (hc : X.calm = true) (hu : X.A.units + 64 < cLine) : CallR X (.builtin "sorted") (rSortedT X.K) := by
  intro pins s σ H vs us Q I r h
  obtain ⟨d, kvs, rfl, hd, od, q⟩ := h
  obtain ⟨u, rfl, ru⟩ := vals1 r
  cases (show u = Value.ref d from ru)
  obtain ⟨z, hs, ks, pr, o, es, ep, ho, hx, hdt, he, hn⟩ := (show ObjOk X.prog X.w H s.heap d (.dT kvs) from hd.ok I.hok)
  have l1 : es.size = ks.length := size_of_entries he
  have l2 : kvs.length = ks.length := Paired.length pr
  refine Calls.call_function_entry PyProof.Rows.kind_sorted PyProof.Rows.plain_sorted PyProof.Rows.entry_sorted (PyProof.Rows.args_sorted1 _) ?_
  unfold Builtin.«sorted»
  refine wpAny_bind (m := checkCount "sorted" 1 1 _) (wpAny_pure ?_)
  refine wpAny_bind (PySem.W.kdu_collect (A := X.A.in1) (kdl_raw hs hx hdt) (I.ok.hd hc) ho (by omega) fun h' tk acc hk it => ?_)
  have ea : acc.toList = ks.map fun x => Value.ref x.2.1 := by
    have hl : acc.toList.length = ks.length := by rw [Array.length_toList, it.1]; exact l1
    apply List.ext_getElem?
    intro j
    rw [List.getElem?_map]
    cases hj : acc.toList[j]? with
    | none =>
      have h1 := List.getElem?_eq_none_iff.mp hj
      rw [List.getElem?_eq_none (by omega)]
      all_goals rfl
    | some v =>
      obtain ⟨en, hen, hv⟩ := it.2 j v (by rw [← Array.getElem?_toList]; exact hj)
      have qe := entry_at he j
      rw [hen] at qe
      cases hb : ks[j]? with
      | none =>
        rw [hb] at qe
        exact nomatch (show some en = none from qe)
      | some b =>
        rw [hb] at qe
        have e2 : en = entryOfKey (tupleKind (mixKind X.prog X.w)) b := Option.some.inj qe
        rw [hv, e2]
        all_goals rfl
  have eb : acc.toList = (ks.map fun x => x.2.1).map Value.ref := by rw [ea, List.map_map]; all_goals rfl
  have rv : Vals ((ks.map fun x => x.2.1).map V.ref) acc.toList := by rw [eb]; exact vals_refs _
  have rk : RepAll X.K H ((ks.map fun x => x.2.1).map V.ref) (kvs.map fun p => keyDat p.1) := keys_rep (isKeys_of pr)
  have I1 : Inv X pins σ H { s with heap := h', toks := tk } := I.kept hk
  have e1 := each_rep rk rv
  have hal : acc.toList.length = (kvs.map fun p => keyDat p.1).length := e1.length
  have hL : acc.toList.length ≤ sizeLine := by rw [hal, List.length_map]; omega
  have e2 : EachIs (fun v d => ∃ as, Reads h' v (D.Dat.py d) as) acc.toList (kvs.map fun p => keyDat p.1) := by
    have : ∀ {ds : List Dat} {vs : List Value}, (∀ d ∈ ds, d.pure = true) → EachIs (fun v d => ∃ x, RelV x v ∧ Rep X.K H x d) vs ds → EachIs (fun v d => ∃ as, Reads h' v (D.Dat.py d) as) vs ds := by
      intro ds vs hp e
      induction e with
      | nil => exact .nil
      | @cons v d vs ds a _ ih =>
        obtain ⟨x, r, p⟩ := a
        obtain ⟨as, q, _⟩ := Rep.reads I1 d x v p (hp d List.mem_cons_self) r
        exact .cons ⟨as, q⟩ (ih fun y hy => hp y (List.mem_cons_of_mem _ hy))
    exact this od.pu e1
  refine wpAny_bind (wpAny_newList ?_ hL)
  have hoL : (h'.push (seqObj "list" acc.toList.toArray 0)).get? h'.objs.size = some (seqObj "list" acc.toList.toArray 0) := Heap.get?_push_size _ rfl
  show wpAny _ _ _ _ _ { s with heap := h'.push (seqObj "list" acc.toList.toArray 0), toks := tk }
  have old : ∀ b o, h'.get? b = some o → (sortingHeap (h'.push (seqObj "list" acc.toList.toArray 0)) h'.objs.size acc.toList).get? b = some o := fun b o e =>
    sortingHeap_old (Nat.ne_of_lt (Heap.lt_size e)) (Heap.get?_push_of_some _ e)
  have e3 : EachIs (fun v d => ∃ as, Reads (sortingHeap (h'.push (seqObj "list" acc.toList.toArray 0)) h'.objs.size acc.toList) v (D.Dat.py d) as) acc.toList (kvs.map fun p => keyDat p.1) :=
    e2.mono fun _ _ ⟨as, r⟩ => ⟨as, PyProof.Rows.Reads.keeps old r⟩
  refine wpAny_bind (wpAny_holding (wpAny_call_entry_kw PySem.F.slot_list_sort ⟨_, hoL, rfl⟩ PySem.F.entry_list_sort ?body (args_list_sort _)))
  case body =>
    have S := SortsAt.data (prog := X.prog) (w := X.w) (A := X.A.in1.in1) (s := { s with heap := sortingHeap (h'.push (seqObj "list" acc.toList.toArray 0)) h'.objs.size acc.toList, toks := tk })
      (each_map (R := fun v d => ∃ as, Reads (sortingHeap (h'.push (seqObj "list" acc.toList.toArray 0)) h'.objs.size acc.toList) v d as) D.Dat.py e3) od.al od.so (fun d hd => by obtain ⟨e, he, rfl⟩ := List.mem_map.mp hd; have := od.dp e he; simp only [Around.in1]; omega)
    refine list_sort_vals (s := { s with heap := h'.push (seqObj "list" acc.toList.toArray 0), toks := tk }) hoL S hL ⟨_, rfl, ?_⟩
    have eo := sortVals_data (R := fun v d => ∃ x, RelV x v ∧ Rep X.K H x d) (enc := Dat.py) false e1 e3 od.al
    obtain ⟨ys, ry, vy⟩ := rep_each eo
    have ol : ys.length = kvs.length := by
      rw [vy.length, sortVals_length false rfl, hal, List.length_map]
    obtain ⟨e', he'⟩ := PyProof.Rows.sortedHeap_at (vs := acc.toList) (out := (sortVals (dataKind (sortingHeap (h'.push (seqObj "list" acc.toList.toArray 0)) h'.objs.size acc.toList) ((kvs.map fun p => keyDat p.1).map Dat.py)) false acc.toList acc.toList).toArray) hoL
    have hlen : ys.length ≤ sizeLine := by rw [ol]; omega
    refine wpAny_pure ⟨_, rfl, .ref h'.objs.size, upd H h'.objs.size (.lst ys), I1.laid (t' := tk) (fun b u e => ?_) (Nat.le_refl _)
      (show ObjOk X.prog X.w _ _ _ (.lst ys) from ⟨hlen, _, e', vy, he'⟩), rfl, q _ ys (I1.hok.fresh (Nat.le_refl _)) ry ol⟩
    have hb : b < h'.objs.size := Heap.lt_size e
    rw [PyProof.Rows.sortedHeap_old (Nat.ne_of_lt hb) (by rw [size_push']; exact Nat.lt_succ_of_lt hb)]
    exact Heap.get?_push_of_some _ e
end
end S

set_option Elab.async false
set_option linter.all false
set_option maxRecDepth 100000
set_option maxHeartbeats 8000000
namespace K
open PySem PySem.Spec PyProof.Rows L2 G D L S C Sx Kx Ex Lt Qe
open Fz hiding Fr
open C8 (pss_cut tCut)
open PySem.W (dataLt alike AllAlike Sortable)
/-- a short text of plain letters -/
structure Tx (x : Str) : Prop where
  len : x.length ≤ 8
  cp : ∀ c ∈ x.cps.toList, c < 1000
def txB (x : Str) : Bool := decide (x.length ≤ 8) && x.cps.toList.all fun c => decide (c < 1000)
theorem tx_of {x : Str} (h : txB x = true) : Tx x := by
  unfold txB at h
  simp only [Bool.and_eq_true, decide_eq_true_eq, List.all_eq_true] at h
  exact ⟨h.1, h.2⟩
theorem tx_name {x : Str} (h : nameOk x = true) : Tx x := by
  unfold nameOk at h
  simp only [Bool.and_eq_true, decide_eq_true_eq, List.all_eq_true] at h
  refine ⟨h.1.2, fun c hc => ?_⟩
  have := h.2 c hc
  unfold lower at this
  simp only [Bool.and_eq_true, decide_eq_true_eq] at this
  omega
theorem Tx.fine {x : Str} (h : Tx x) : Fine 1 82 (.str x) := by
  refine fine_str ?_
  have := StrLaws.reprText_len x (fun c hc => Nat.lt_trans (h.cp c hc) (by decide))
  have := h.len
  omega
theorem Tx.ok {x : Str} (h : Tx x) : PyData.strOk x = true := by
  unfold PyData.strOk
  rw [← Array.all_toList, List.all_eq_true]
  exact fun c hc => decide_eq_true (Nat.lt_trans (h.cp c hc) (by decide))
theorem fine_state {i : Int} (h0 : 0 ≤ i) (h1 : i < 64) : Fine 1 5 (.int i) := by
  have : ∀ i : Fin 64, fineB 1 5 (.int ((i.val : Int))) = true := by decide +kernel
  have q := fine_of (this ⟨i.toNat, by omega⟩)
  have e : ((i.toNat : Nat) : Int) = i := Int.toNat_of_nonneg h0
  simp only [e] at q
  exact q
theorem kind_tx {cs : List Str} (nc : Names cs) {k : Str} (h : k ∈ cs ++ (["", "?"] : List Str)) : Tx k := by
  rcases List.mem_append.mp h with h | h
  · exact tx_name (nc.ok _ h)
  · simp only [List.mem_cons, List.not_mem_nil, or_false] at h
    rcases h with rfl | rfl <;> exact tx_of (by decide +kernel)
theorem ord_keys (rs : List Rl) : Ord ((rs.map Rl.key).map keyDat) := by
  have form : ∀ d ∈ (rs.map Rl.key).map keyDat, ∃ (a : Str) (i : Int) (b : Str), d = .tup [.str a, .int i, .str b] := by
    intro d hd
    rw [List.map_map] at hd
    obtain ⟨r, _, rfl⟩ := List.mem_map.mp hd
    exact ⟨r.door, r.state, r.kind, rfl⟩
  refine ⟨fun d hd => ?_, fun d hd e he => ?_, .inl fun d hd => ?_, fun d hd => ?_⟩
  · obtain ⟨a, i, b, rfl⟩ := form d hd
    rfl
  · obtain ⟨d', hd', rfl⟩ := List.mem_map.mp hd
    obtain ⟨e', he', rfl⟩ := List.mem_map.mp he
    obtain ⟨a, i, b, rfl⟩ := form d' hd'
    obtain ⟨a', i', b', rfl⟩ := form e' he'
    simp [Dat.py, pyAll, alike, PySem.W.alikeAll]
  · obtain ⟨d', hd', rfl⟩ := List.mem_map.mp hd
    obtain ⟨a, i, b, rfl⟩ := form d' hd'
    exact ⟨.str a, _, rfl⟩
  · obtain ⟨a, i, b, rfl⟩ := form d hd
    simp [Dat.py, pyAll, PyData.depth, PyData.depthAll]
/-- the law's keys in order -/
theorem keys_sorted {K : PySem.W.Frag} {F H : Hp} {kvs : List (List Key × V)} {rs : List Rl} (tf : TupF F H) (e : kvs.map (·.1) = rs.map Rl.key) {ys : List V}
    (h : RepAll K H ys (sortD (kvs.map fun p => keyDat p.1))) : ∃ rs' : List Rl, rs'.Perm rs ∧ RepAll K F ys ((rs'.map Rl.key).map keyDat) := by
  have ek : (kvs.map fun p => keyDat p.1) = rs.map (fun r => keyDat r.key) := by
    have : (kvs.map fun p => keyDat p.1) = (kvs.map (·.1)).map keyDat := by rw [List.map_map]; rfl
    rw [this, e, List.map_map]
    rfl
  rw [ek] at h
  obtain ⟨rs', e', p⟩ := perm_map (f := fun r : Rl => keyDat r.key) (show (sortD (rs.map fun r => keyDat r.key)).Perm (rs.map fun r => keyDat r.key) from List.mergeSort_perm _ _) rs rfl
  refine ⟨rs', p, keys_in tf ?_⟩
  rw [e'] at h
  rw [List.map_map]
  exact h
theorem ord_kvs {kvs : List (List Key × V)} {rs : List Rl} (e : kvs.map (·.1) = rs.map Rl.key) : Ord (kvs.map fun p => keyDat p.1) := by
  have : (kvs.map fun p => keyDat p.1) = (kvs.map (·.1)).map keyDat := by rw [List.map_map]; rfl
  rw [this, e]
  exact ord_keys rs
/-- one of an odd key's three data -/
abbrev Kd (d : Dat) : Prop := Fine 9 5000 d
def spKeyOdd (K : PySem.W.Frag) : Sp := fun vs H Q _ => ∃ (b g : Addr) (F : Hp) (n : Int) (ds cs : List Str) (rs : List Rl), vs = [.ref b, .ref g] ∧ Fz.Fr F H b ∧ TupF F H ∧ LGF K F g n ds cs rs ∧ WfG n ds cs rs ∧ rs ≠ [] ∧
  ∀ v d1 d2 d3 F' H', Go b F H F' H' → Rep K F' v (.lst [d1, d2, d3]) → Kd d1 → Kd d2 → Kd d3 → Q v H'
theorem key_fine {n : Int} {ds cs : List Str} {rs : List Rl} (wf : WfG n ds cs rs) {r : Rl} (h : r ∈ rs) : ∀ d ∈ ([.str r.door, .int r.state, .str r.kind] : List Dat), Fine 1 82 d := by
  intro d hd
  have ok := wf.ok r h
  simp only [List.mem_cons, List.not_mem_nil, or_false] at hd
  rcases hd with rfl | rfl | rfl
  · exact (tx_name (wf.nd.ok _ ok.door)).fine
  · exact (fine_state ok.s0 (by have := ok.s1; have := wf.n64; omega)).mono (by decide) (by decide)
  · exact (kind_tx wf.nc ok.kind).fine
section
variable {P : Program} {w : World} {K : PySem.W.Frag} {mg : Str → Option Value} {base : Heap}
abbrev s_law_key_odd : Stmt := top 26
theorem sc_law_key_odd : FnScope ["bag", "gate", "key", "found", "at"] ["bag", "gate"] (defScope s_law_key_odd) := ⟨rfl, rfl, rfl, by decide +kernel, rfl, by decide +kernel, by decide +kernel⟩
theorem ok_key_odd {f : Addr} {fd : FuncData} (F : Fun K "_law_key_odd" "_law_key_odd" s_law_key_odd f fd) (T : Bl mg)
    (D_law_take : Def P w K mg base 2 "_law_take" ["bag", "many"] spTake) (D_law_one : Def P w K mg base 3 "_law_one" ["bag", "things"] spOne)
    (D_law_odd : Def P w K mg base 4 "_law_odd" ["bag"] (spDraw K Gd)) : Fn P w K mg base CX0 5 f fd ["bag", "gate"] (spKeyOdd K) := by
  refine fn_calm F sc_law_key_odd (fun vs H Q E h => ?_) (fun cdv A outer s H vs Q E hc hr h => ?_)
  · obtain ⟨b, g, F, n, ds, cs, rs, rfl, _⟩ := h
    rfl
  · obtain ⟨b, g, F0, n, ds, cs, rs, rfl, fr, tf, lgf, wf, rne, k⟩ := h
    have hu := hu_of hr
    have hu64 := hr.units
    obtain ⟨r, kvs, lg, hR, lr⟩ := lgf.ex
    obtain ⟨d, c, hg, hd, hC⟩ := lg.ex
    refine ⟨_, (pss_cons (ps_set (i := 2) sc_law_key_odd.nd rfl (Or.inl rfl) (pe_def D_law_one hc (hr.mono (by decide)) (pa_cons (pv 0) (pa_cons (pe_callB (call_sortedT rfl hu64) (by rfl) T.sortedN (by decide +kernel) (pa_cons (pe_dget hu (pv 1) pe_str (fun _ _ => rfl)) pa_nil)) pa_nil))))
 (pss_cons (ps_par (i := 3) (j := 4) (by rfl) sc_law_key_odd.nd rfl rfl (by decide) rfl rfl (pa_cons (pe_callTy call_list_of (by rfl) T.listN (by decide +kernel) (pa_cons (pv 2) pa_nil)) (pa_cons (pe_def D_law_take hc (hr.mono (by decide)) (pa_cons (pv 0) (pa_cons pe_int pa_nil))) pa_nil)) (by rfl))
 (pss_cons (ps_asg (pe_def D_law_one hc (hr.mono (by decide)) (pa_cons (pv 0) (pa_cons (pe_lst (pa_mix 9 9 (ds := [.non, .bl true, .bl false, .str "", .str "?", .int 0, .int 1, .int (-(1 : Int)), .str "zz"]) (by rfl) (by rfl) (pa_cons (pe_lst (pa_cons (pe_ix ix_tup (pv 2) (pv 4) (fun _ _ => rfl)) pa_nil)) (pa_cons (pv 2) (pa_cons (pe_def D_law_odd hc (hr.mono (by decide)) (pa_cons (pv 0) pa_nil)) pa_nil))))) pa_nil))) (pg_sub (pv 3) (pv 4) set_list))
 (pss_one (ps_ret (pv 3)))))), ?_⟩
    refine ⟨_, rfl, _, rfl, g, _, rfl, dg (fr.same _ _ hg) (lg_rules n d c r), r, kvs, rfl, .inl (fr.same _ _ hR), ord_kvs lr.ks, fun p ys hp hys ly => ?_⟩
    obtain ⟨rs1, p1, hys0⟩ := keys_sorted tf lr.ks hys
    obtain ⟨F1, g1, s1, at1⟩ := (Go.refl fr).put' (o := .lst ys) hp
    have ly1 : ys.length = rs.length := by
      rw [hys0.length, List.length_map, List.length_map, p1.length_eq]
    have yne : ys ≠ [] := fun z => rne (List.length_eq_zero_iff.mp (by rw [← ly1, z]; rfl))
    refine ⟨b, p, ys, rfl, g1.bag, upd_same, g1.ne at1, yne, by rw [ly1]; exact Nat.lt_of_le_of_lt wf.rl (by decide), fun kv H2 hkv sb2 bt2 => ?_⟩
    obtain ⟨dk, hdk, rdk⟩ := rep_mem hys0 hkv
    rw [List.map_map] at hdk
    obtain ⟨ru, hru, rfl⟩ := List.mem_map.mp hdk
    have hru := p1.mem_iff.mp hru
    have kf := key_fine wf hru
    obtain ⟨a, rfl, ha⟩ := key_rep rdk
    have g2 := g1.took sb2 bt2
    have ha1 := s1 _ _ ha
    have rkey : RepAll K F1 (ru.key.map kV) [.str ru.door, .int ru.state, .str ru.kind] := ⟨_, _, rfl, rfl, _, _, rfl, rfl, _, _, rfl, rfl, rfl⟩
    refine ⟨_, rfl, a, _, rfl, .inr (SqT.of (g2.same _ _ ha1)), fun D hD => ?_⟩
    have own2 := g2.own (G := Kd) hD rkey fun d hd => (kf d hd).mono (by decide) (by decide)
    generalize upd H2 D (.lst (ru.key.map kV)) = H3 at own2
    refine ⟨_, rfl, b, 3, rfl, own2.go.bag, by decide, by decide, fun q H4 q0 q3 sb4 bt4 => ⟨_, _, rfl, ?_⟩⟩
    have own4 := own2.on ((Go.refl own2.go.fr).took sb4 bt4)
    have eq : ((q.toNat : Nat) : Int) = q := Int.toNat_of_nonneg q0
    have hq : q.toNat < 3 := by omega
    have hq3 : q.toNat < (ru.key.map kV).length := hq
    refine ⟨_, rfl, fun vs N5 H5 n5 r5 => ?_⟩
    obtain ⟨F5, g5, s5, t5⟩ := (Go.refl own4.go.fr).lit' n5
    have own5 := own4.on g5
    have l5 := r5.length
    have hx : (ru.key.map kV)[q.toNat]? = some ((ru.key.map kV)[q.toNat]'hq3) := List.getElem?_eq_getElem hq3
    have hat := atI_nat hx
    rw [eq] at hat
    obtain ⟨dx, hdx, rx⟩ := rkey.get hx
    have fx := kf dx (List.mem_of_getElem? hdx)
    generalize (ru.key.map kV)[q.toNat]'hq3 = x at hat rx
    refine ⟨_, rfl, _, rfl, a, _, q, x, rfl, rfl, SqT.of (own5.go.same _ _ (s5 _ _ ha1)), hat, by show 1 ≤ sizeLine; decide, fun p6 hp6 => ?_⟩
    obtain ⟨F6, g6, s6, at6⟩ := (Go.refl own5.go.fr).put' (o := .lst [x]) hp6
    have own6 := own5.on g6
    refine ⟨_, rfl, _, rfl, b, F6, rfl, own6.go.fr, fun vo do7 F7 H7 g7 r7 gd7 => ?_⟩
    have own7 := own6.on g7
    refine ⟨by show (vs ++ [V.ref p6, V.ref a, vo]).length ≤ sizeLine; rw [List.length_append, l5]; exact (by decide : 9 + 3 ≤ sizeLine), fun p8 hp8 => ?_⟩
    obtain ⟨F8, g8, s8, at8⟩ := (Go.refl own7.go.fr).put' (o := .lst (vs ++ [V.ref p6, V.ref a, vo])) hp8
    have own8 := own7.on g8
    have all : RepAll K F8 (vs ++ [V.ref p6, V.ref a, vo]) ([.non, .bl true, .bl false, .str "", .str "?", .int 0, .int 1, .int (-(1 : Int)), .str "zz"] ++ [.lst [dx], keyDat ru.key, do7]) := by
      have u := (s6.trans g7.up).trans s8
      refine RepAll.append (RepAll.mono (t5.trans u) _ r5) ⟨_, _, rfl, ⟨p6, _, rfl, (g7.up.trans s8) _ _ at6, x, [], rfl, Rep.mono (s5.trans u) _ rx, rfl⟩, _, _, rfl, rep_key ((s5.trans u) _ _ ha1), _, _, rfl, Rep.mono s8 _ r7, rfl⟩
    have good : ∀ d ∈ ([.non, .bl true, .bl false, .str "", .str "?", .int 0, .int 1, .int (-(1 : Int)), .str "zz"] ++ [.lst [dx], keyDat ru.key, do7] : List Dat), Kd d := by
      intro d hd
      rcases List.mem_append.mp hd with hd | hd
      · have : ([.non, .bl true, .bl false, .str "", .str "?", .int 0, .int 1, .int (-(1 : Int)), .str "zz"] : List Dat).all (fun d => fineB 9 5000 d) = true := by decide +kernel
        exact fine_of (List.all_eq_true.mp this d hd)
      · simp only [List.mem_cons, List.not_mem_nil, or_false] at hd
        rcases hd with rfl | rfl | rfl
        · exact (fine_lst (m := 1) (fun y hy => by rw [List.mem_singleton] at hy; subst hy; exact fx) (Nat.le_refl _)).mono (by decide) (by decide)
        · exact (fine_tup (m := 3) kf (Nat.le_refl _)).mono (by decide) (by decide)
        · exact gd7.fi.mono (by decide) (by decide)
    refine ⟨b, p8, _, rfl, own8.go.bag, upd_same, own8.go.ne at8, by simp, by rw [List.length_append, l5]; exact (by decide : 9 + 3 < 1000000), fun v9 H9 hv9 sb9 bt9 => ?_⟩
    obtain ⟨d9, hd9, rd9⟩ := rep_mem all hv9
    have own9 := own8.on ((Go.refl own8.go.fr).took sb9 bt9)
    have fin : ∀ ds' : List Dat, ds' = ([.str ru.door, .int ru.state, .str ru.kind] : List Dat).set q.toNat d9 → ∃ e1 e2 e3, ds' = [e1, e2, e3] ∧ Kd e1 ∧ Kd e2 ∧ Kd e3 := by
      rintro ds' rfl
      have g9 := good d9 hd9
      have k1 := (kf (.str ru.door) (by simp)).mono (by decide : 1 ≤ 9) (by decide : 82 ≤ 5000)
      have k2 := (kf (.int ru.state) (by simp)).mono (by decide : 1 ≤ 9) (by decide : 82 ≤ 5000)
      have k3 := (kf (.str ru.kind) (by simp)).mono (by decide : 1 ≤ 9) (by decide : 82 ≤ 5000)
      have : q.toNat = 0 ∨ q.toNat = 1 ∨ q.toNat = 2 := by omega
      rcases this with e | e | e <;> rw [e]
      · exact ⟨_, _, _, rfl, g9, k2, k3⟩
      · exact ⟨_, _, _, rfl, k1, g9, k3⟩
      · exact ⟨_, _, _, rfl, k1, k2, g9⟩
    obtain ⟨e1, e2, e3, ee, f1, f2, f3⟩ := fin _ rfl
    have rset := RepAll.set q.toNat own9.hs rd9
    rw [ee] at rset
    refine ⟨_, rfl, _, rfl, D, _, q, q.toNat, rfl, rfl, own9.at1, ?_, ?_⟩
    · unfold ixN
      rw [if_pos q0, if_pos (by show q < 3; exact q3)]
    have own10 := own9.set rset (fun y hy => by
      simp only [List.mem_cons, List.not_mem_nil, or_false] at hy
      rcases hy with rfl | rfl | rfl
      · exact f1
      · exact f2
      · exact f3)
    exact ⟨_, rfl, k _ e1 e2 e3 _ _ own10.end.1 own10.end.2 f1 f2 f3⟩
end
end K

set_option Elab.async false
set_option linter.all false
set_option maxRecDepth 100000
set_option maxHeartbeats 8000000
namespace K
open PySem PySem.Spec PyProof.Rows L2 G D L S C Sx Kx Ex Lt Qe
open Fz hiding Fr
open C8 (pss_cut tCut)
open PySem.W (dataLt alike AllAlike Sortable)
/-- nothing, or a name -/
def Nm (x : Str) : Prop := x = "" ∨ nameOk x = true
theorem Nm.tx {x : Str} (h : Nm x) : Tx x := by
  rcases h with rfl | h
  · exact tx_of (by decide +kernel)
  · exact tx_name h
theorem call_form {n : Int} {ds cs : List Str} {rs : List Rl} (wf : WfG n ds cs rs) {st : Int} {kept door given : Str} (s0 : 0 ≤ st) (s1 : st < n) (hk : Nm kept) (hg : Nm given) :
    ∃ (st' : Int) (kept' : Str) (names : List Str), callOf rs cs st kept door given = .tup [.int st', .str kept', .lst (names.map .str)] ∧ 0 ≤ st' ∧ st' < n ∧ Nm kept' ∧ (∀ w ∈ names, Tx w) ∧ names.length ≤ 100 := by
  unfold callOf
  cases e : ruleOf rs (.str door) (.int st) (.str (kindOf cs given)) with
  | none => exact ⟨st, kept, [], rfl, s0, s1, hk, fun _ h => (nomatch h), by decide⟩
  | some r =>
    have hf : rs.find? (fun r => decide (r.key = [.inr door, .inl st, .inr (kindOf cs given)])) = some r := e
    have mr := List.mem_of_find?_eq_some hf
    have okr := wf.ok r mr
    refine ⟨r.later, _, toldOf r.told kept given, rfl, okr.l0, okr.l1, ?_, fun w hw => ?_, Nat.le_trans (told_len _ _ _) (wf.tl r mr)⟩
    · by_cases q : r.keeps = true
      · rw [if_pos q]; exact hg
      · rw [if_neg q]; exact hk
    · unfold toldOf at hw
      obtain ⟨u, hu, hw⟩ := List.mem_flatMap.mp hw
      by_cases g : u = "+given"
      · rw [if_pos g, List.mem_singleton] at hw
        rw [hw]; exact hg.tx
      · rw [if_neg g] at hw
        by_cases q : u = "+kept"
        · rw [if_neg (fun z => z q)] at hw
          by_cases z : kept = ""
          · rw [if_neg (fun y => y z)] at hw
            cases hw
          · rw [if_pos z, List.mem_singleton] at hw
            rw [hw]; exact hk.tx
        · rw [if_pos q, List.mem_singleton] at hw
          rw [hw]
          rcases List.mem_append.mp (okr.told1 u hu) with z | z
          · exact tx_name (wf.nc.ok _ z)
          · simp only [List.mem_cons, List.not_mem_nil, or_false] at z
            rcases z with z | z
            · exact absurd z q
            · exact absurd z g
/-- an answer is fit to be shown and compared -/
theorem told_good {n : Int} {st' : Int} {kept' : Str} {names : List Str} (n64 : n ≤ 64) (s0 : 0 ≤ st') (s1 : st' < n) (hk : Nm kept') (hw : ∀ w ∈ names, Tx w) (hl : names.length ≤ 100) :
    (Dat.tup [.int st', .str kept', .lst (names.map .str)]).py.canLay0 = true ∧ Fine 40 sizeLine (Dat.tup [.int st', .str kept', .lst (names.map .str)]) := by
  constructor
  · have ws : ∀ l : List Str, (∀ w ∈ l, Tx w) → PyData.canLayAll0 (pyAll (l.map Dat.str)) = true := by
      intro l
      induction l with
      | nil => intro _; rfl
      | cons w l ih =>
        intro h
        show (PyData.canLay0 (.str w) && PyData.canLayAll0 (pyAll (l.map Dat.str))) = true
        rw [ih fun x hx => h x (List.mem_cons_of_mem _ hx)]
        rw [show PyData.canLay0 (.str w) = PyData.strOk w from rfl, (h w List.mem_cons_self).ok]
        rfl
    show (PyData.canLay0 (.int st') && (PyData.canLay0 (.str kept') && (PyData.canLayAll0 (pyAll (names.map Dat.str)) && true))) = true
    rw [ws names hw, show PyData.canLay0 (.str kept') = PyData.strOk kept' from rfl, hk.tx.ok]
    rfl
  · refine (fine_tup (k := 2) (n := 9000) (m := 3) (fun d hd => ?_) (Nat.le_refl _)).mono (by decide) (by decide)
    simp only [List.mem_cons, List.not_mem_nil, or_false] at hd
    rcases hd with rfl | rfl | rfl
    · exact (fine_state s0 (by omega)).mono (by decide) (by decide)
    · exact hk.tx.fine.mono (by decide) (by decide)
    · refine (fine_lst (k := 1) (n := 82) (m := 100) (fun e he => ?_) (by rw [List.length_map]; exact hl)).mono (by decide) (by decide)
      obtain ⟨w, h, rfl⟩ := List.mem_map.mp he
      exact (hw w h).fine
def spRowRight (K : PySem.W.Frag) (C : Addr) : Sp := fun vs H Q _ => ∃ (b g x tn : Addr) (F : Hp) (n : Int) (ds cs us ws nm : List Str) (rs rs' : List Rl), vs = [.ref b, .ref g, .ref x, .ref tn] ∧ Fz.Fr F H b ∧ LGF K F g n ds cs rs ∧ WfG n ds cs rs ∧
  GateAt K C F x n us ws rs' ∧ ws.Perm cs ∧ rs'.Perm rs ∧ F tn = some (.lst (nm.map .str)) ∧ (∀ w ∈ nm, nameOk w = true) ∧ nm.length ≤ 16 ∧ ∀ F' H', Go b F H F' H' → Q (.bl true) H'
section
variable {P : Program} {w : World} {K : PySem.W.Frag} {mg : Str → Option Value} {base : Heap}
abbrev s_law_row_right : Stmt := top 27
theorem sc_law_row_right : FnScope ["bag", "gate", "found", "names", "state", "kept", "k", "door", "given", "due", "heard"] ["bag", "gate", "found", "names"] (defScope s_law_row_right) := ⟨rfl, rfl, rfl, by decide +kernel, rfl, by decide +kernel, by decide +kernel⟩
theorem ok_row_right {f C fC : Addr} {fd fdC : FuncData} (F : Fun K "_law_row_right" "_law_row_right" s_law_row_right f fd) (T : Bl mg) (gc : GCls K C)
    (D_law_one : Def P w K mg base 3 "_law_one" ["bag", "things"] spOne) (D_law_alike : Def P w K mg base 2 "_law_alike" ["found", "due"] (spAlike2 K))
    (D_law_call : Def P w K mg base 2 "_law_call" ["gate", "state", "kept", "door", "given"] (spLCall K))
    (M_call : Meth K C "call" fC) (CA : Fn P w K mg base CX0 4 fC fdC ["self", "state", "kept", "door", "given"] (spCall K C)) (b_call : Binds K fdC ["self", "state", "kept", "door", "given"] []) :
    Fn P w K mg base CX0 5 f fd ["bag", "gate", "found", "names"] (spRowRight K C) := by
  refine fn_calm F sc_law_row_right (fun vs H Q E h => ?_) (fun cdv A outer s H vs Q E hc hr h => ?_)
  · obtain ⟨b, g, x, tn, F, n, ds, cs, us, ws, nm, rs, rs', rfl, _⟩ := h
    rfl
  · obtain ⟨b, g, x, tn, F0, n, ds, cs, us, ws, nm, rs, rs', rfl, fr, lgf, wf, ga, pws, prs, htn, nms, nml, k⟩ := h
    have hu := hu_of hr
    have hu64 := hr.units
    obtain ⟨r, kvs, lg, hR, lr⟩ := lgf.ex
    obtain ⟨d, c, hg, hd, hC⟩ := lg.ex
    obtain ⟨dx, gd, gcl, gr, gkvs, gus, gws, h1, h2, h3, h4, h5, h6, h7, h8⟩ := ga.ex
    have nl : ([("_states", .int n), ("_doors", .ref gd), ("_closet", .ref gcl), ("_rules", .ref gr)] : List (Str × V)).lookup ("call" : Str) = none := rfl
    refine ⟨_, (pss_cons (ps_asg (pe_lit (d := .tup [.int 0, .str ""]) 9 (by rfl) (by rfl)) (pg_tup (by rfl) (pgs_cons (pg_name (i := 4) sc_law_row_right.nd rfl (Or.inl rfl)) (pgs_cons (pg_name (i := 5) sc_law_row_right.nd rfl (Or.inl rfl)) pgs_nil))))
 (pss_cons (ps_for PassesOwn.never rfl (pi_range1 rfl T.rangeN (pa_cons pe_int pa_nil)) (pg_name (i := 6) sc_law_row_right.nd rfl (Or.inl rfl))
  (pss_cons (ps_par (i := 7) (j := 8) (by rfl) sc_law_row_right.nd rfl rfl (by decide) rfl rfl (pa_cons (pe_def D_law_one hc (hr.mono (by decide)) (pa_cons (pv 0) (pa_cons (pe_dget hu (pv 1) pe_str (fun _ _ => rfl)) pa_nil))) (pa_cons (pe_def D_law_one hc (hr.mono (by decide)) (pa_cons (pv 0) (pa_cons (pe_op op_cat (pe_lit (d := .lst [.str ""]) 9 (by rfl) (by rfl)) (pv 3)) pa_nil))) pa_nil)) (by rfl))
 (pss_cons (ps_set (i := 9) sc_law_row_right.nd rfl (Or.inl rfl) (pe_def D_law_call hc (hr.mono (by decide)) (pa_cons (pv 1) (pa_cons (pv 4) (pa_cons (pv 5) (pa_cons (pv 7) (pa_cons (pv 8) pa_nil)))))))
 (pss_cons (ps_set (i := 10) sc_law_row_right.nd rfl (Or.inl rfl) (pe_mth (pv 2) gc.cl M_call CA hc (hr.mono (by decide)) b_call .nil pass0 (pa_cons (pv 4) (pa_cons (pv 5) (pa_cons (pv 7) (pa_cons (pv 8) pa_nil))))))
 (pss_cons (ps_if (pt_not (pt_val (pe_def D_law_alike hc (hr.mono (by decide)) (pa_cons (pv 10) (pa_cons (pv 9) pa_nil)))))
  (pss_one (ps_ret pe_bl))
  pss_nil)
 (pss_cons (ps_expr (pe_bm PySem.F.plainAttrs_list PySem.F.slot_list_append PySem.F.type_list_append mt_append (pe_ix ix_tup (pv 10) pe_int (fun _ _ => rfl)) (pa_cons pe_non pa_nil)))
 (pss_cons (ps_if (pt_not (pt_val (pe_def D_law_alike hc (hr.mono (by decide)) (pa_cons (pe_mth (pv 2) gc.cl M_call CA hc (hr.mono (by decide)) b_call .nil pass0 (pa_cons (pv 4) (pa_cons (pv 5) (pa_cons (pv 7) (pa_cons (pv 8) pa_nil))))) (pa_cons (pv 9) pa_nil)))))
  (pss_one (ps_ret pe_bl))
  pss_nil)
 (pss_one (ps_par (i := 4) (j := 5) (by rfl) sc_law_row_right.nd rfl rfl (by decide) rfl rfl (pa_cons (pe_ix ix_tup (pv 9) pe_int (fun _ _ => rfl)) (pa_cons (pe_ix ix_tup (pv 9) pe_int (fun _ _ => rfl)) pa_nil)) (by rfl))))))))))
 (pss_one (ps_ret pe_bl)))), ?_⟩
    intro vt N1 H1 n1 r1
    obtain ⟨F1, g1, s1, t1⟩ := (Go.refl fr).lit' n1
    obtain ⟨pt, xt, rfl, hpt, y1, _, rfl, e1, y2, _, rfl, e2, rfl⟩ := Rep.mono t1 _ r1
    obtain rfl : y1 = .int 0 := e1
    obtain rfl : y2 = .str "" := e2
    refine ⟨pt, _, rfl, SqT.of (g1.same _ _ hpt), rfl, _, _, rfl, _, _, rfl, rfl, ?_⟩
    refine ⟨8, rfl, by decide, by decide, ?_⟩
    refine for_range (n := 8) (fun i σ H' => ∃ (st : Int) (kept : Str) (o6 o7 o8 o9 o10 : Option V) (F' : Hp), σ = [some (.ref b), some (.ref g), some (.ref x), some (.ref tn), some (.int st), some (.str kept), o6, o7, o8, o9, o10] ∧
      Go b F0 H F' H' ∧ 0 ≤ st ∧ st < n ∧ Nm kept) ⟨0, "", none, none, none, none, none, F1, rfl, g1, Int.le_refl _, by have := wf.n1; omega, .inl rfl⟩ ?_ ?_
    · rintro i σ H2 hi ⟨st, kept, o6, o7, o8, o9, o10, F2, rfl, g2, st0, stn, hk⟩
      -- the door
      refine ⟨_, rfl, _, rfl, g, _, rfl, dg (g2.same _ _ (g2.up _ _ hg)) (lg_doors n d c r), b, d, _, rfl, g2.bag, g2.same _ _ (g2.up _ _ hd), g2.ne (g2.up _ _ hd), by simpa using wf.dn, by rw [List.length_map]; exact Nat.lt_of_le_of_lt wf.nd.len (by decide), fun dv H3 hdv sb3 bt3 => ?_⟩
      obtain ⟨door, hdoor, rfl⟩ := mem_strs hdv
      have g3 := g2.took sb3 bt3
      -- what is given
      refine ⟨_, rfl, fun vl N4 H4 n4 r4 => ?_⟩
      obtain ⟨F4, g4, s4, t4⟩ := g3.lit' n4
      obtain ⟨pl, xl, rfl, hpl, z1, _, rfl, q1, rfl⟩ := Rep.mono t4 _ r4
      obtain rfl : z1 = .str "" := q1
      have htn4 := g4.up _ _ htn
      refine ⟨_, rfl, pl, tn, _, _, rfl, rfl, g4.same _ _ hpl, g4.same _ _ htn4, by rw [List.length_map]; exact Nat.le_trans (Nat.add_le_add_left nml _) (by decide), fun p5 hp5 => ?_⟩
      obtain ⟨F5, g5, s5, at5⟩ := g4.put' (o := .lst ([V.str ""] ++ nm.map .str)) hp5
      refine ⟨b, p5, _, rfl, g5.bag, upd_same, g5.ne at5, by simp, by rw [List.length_append, List.length_map]; exact Nat.lt_of_le_of_lt (Nat.add_le_add_left nml _) (by decide), fun gv H6 hgv sb6 bt6 => ⟨_, _, rfl, ?_⟩⟩
      obtain ⟨given, hgiven, rfl⟩ : ∃ given, Nm given ∧ gv = V.str given := by
        rcases List.mem_append.mp hgv with z | z
        · rw [List.mem_singleton] at z
          exact ⟨"", .inl rfl, z⟩
        · obtain ⟨y, hy, rfl⟩ := mem_strs z
          exact ⟨y, .inr (nms y hy), rfl⟩
      have g6 := g5.took sb6 bt6
      -- what is due
      refine ⟨_, rfl, _, rfl, _, rfl, _, rfl, _, rfl, g, st, kept, door, given, n, ds, cs, rs, rfl, lgf.mono (g6.up.trans g6.same), wf.tl, fun v7 H7 s7 r7 => ?_⟩
      have ec : lcallOf rs cs st kept door given = callOf rs cs st kept door given := (call_eq wf.ok wf.nc st kept door given).symm
      rw [ec] at r7
      have g7 := g6.grow s7
      have gah : ∀ {H' : Hp}, Go b F0 H F5 H' → GateAt K C H' x n us ws rs' := fun g' => ga.mono (g'.up.trans g'.same)
      have tl' : ∀ q ∈ rs', q.told.length ≤ 1000 := fun q hq => Nat.le_trans (wf.tl q (prs.mem_iff.mp hq)) (by decide)
      have ecp : callOf rs' ws st kept door given = callOf rs cs st kept door given := call_perm prs pws wf.ks st kept door given
      obtain ⟨st', kept', names, ef, st0', stn', hk', hw', hl'⟩ := call_form wf (door := door) st0 stn hk hgiven
      obtain ⟨lay, fine⟩ := told_good wf.n64 st0' stn' hk' hw' hl'
      rw [ef] at r7
      -- what is heard
      refine ⟨_, rfl, x, dx, _, rfl, g7.same _ _ (g7.up _ _ h1), nl, _, rfl, _, rfl, _, rfl, _, rfl, x, st, kept, door, given, n, us, ws, rs', rfl, gah g7, tl', fun v8 H8 s8 r8 new8 => ?_⟩
      rw [ecp, ef] at r8
      refine ⟨_, rfl, _, rfl, .inl ⟨v8, v7, _, rfl, r8, Rep.mono s8 _ r7, lay, fine, _, rfl, ?_⟩⟩
      refine iteF ?_
      obtain ⟨t, D, u1, u2, ns, rfl, ht, hD, nD, nt⟩ := new8
      have Dt : D ≠ t := fun z => by rw [z, ht] at hD; cases hD
      have lns : ns.length ≤ 100 := by
        obtain ⟨pt', xs', e', hp', w1, _, rfl, _, w2, _, rfl, _, w3, _, rfl, ⟨pq, xq, ew, hpq, rq⟩, rfl⟩ := r8
        cases e'
        rw [ht] at hp'
        cases hp'
        cases ew
        rw [hD] at hpq
        cases hpq
        rw [rq.length, List.length_map]
        exact hl'
      refine ⟨_, rfl, t, _, 2, .ref D, rfl, rfl, SqT.of ht, rfl, .inl ⟨rfl, _, SqL.of hD⟩, D, _, _, rfl, rfl, hD, Nat.lt_of_le_of_lt lns (by decide), ?_⟩
      have s9 : Same H7 (upd H8 D (.lst (ns ++ [.non]))) := fun y o e => by
        rw [upd_ne (ne_of_none e nD)]
        exact s8 _ _ e
      generalize upd H8 D (.lst (ns ++ [.non])) = H9 at s9
      have g9 := g7.grow s9
      refine ⟨_, rfl, x, dx, _, rfl, g9.same _ _ (g9.up _ _ h1), nl, _, rfl, _, rfl, _, rfl, _, rfl, x, st, kept, door, given, n, us, ws, rs', rfl, gah g9, tl', fun va Ha sa ra _ => ?_⟩
      rw [ecp, ef] at ra
      have r7a := Rep.mono (s9.trans sa) _ r7
      refine ⟨_, rfl, .inl ⟨va, v7, _, rfl, ra, r7a, lay, fine, _, rfl, ?_⟩⟩
      refine iteF ?_
      have ga' := g9.grow sa
      obtain ⟨p7, x7, rfl, hp7, w1, _, rfl, f1, w2, _, rfl, f2, w3, _, rfl, f3, rfl⟩ := r7a
      obtain rfl : w1 = .int st' := f1
      obtain rfl : w2 = .str kept' := f2
      exact ⟨_, rfl, p7, _, 0, _, rfl, rfl, SqT.of hp7, rfl, _, rfl, p7, _, 1, _, rfl, rfl, SqT.of hp7, rfl, _, _, rfl, st', kept', _, _, _, _, _, F5, rfl, ga', st0', stn', hk'⟩
    · rintro σ H2 ⟨st, kept, o6, o7, o8, o9, o10, F2, rfl, g2, _⟩
      exact k F2 H2 g2
end
end K

set_option Elab.async false
set_option linter.all false
set_option maxRecDepth 100000
set_option maxHeartbeats 16000000
namespace K
open PySem PySem.Spec PyProof.Rows L2 G D L S C Sx Kx Ex Lt Qe
open Fz hiding Fr
open C8 (pss_cut tCut)
open PySem.W (dataLt alike AllAlike Sortable)
/-- the frozen part at the start: all but the bag -/
theorem fr_start {H : Hp} {b l : Addr} (h : BagL H b l) : Fz.Fr (fun y => if y = b then none else H y) H b := by
  have lb : l ≠ b := fun z => by
    obtain ⟨c0, c1, c2, ms, h1, h2, _⟩ := h
    rw [z, h1] at h2
    have q := HO.lst.inj (Option.some.inj h2)
    have : V.ref l ∈ ms.map V.int := by rw [← q]; simp
    obtain ⟨m, _, e⟩ := List.mem_map.mp this
    cases e
  refine ⟨fun y o e => ?_, if_pos rfl, l, ?_⟩
  · by_cases q : y = b
    · rw [if_pos q] at e
      cases e
    · rw [if_neg q] at e
      exact e
  · obtain ⟨c0, c1, c2, ms, h1, h2, r⟩ := h
    exact ⟨_, ⟨c0, c1, c2, ms, h1, h2, r⟩, by rw [if_neg lb]; exact h2⟩
/-- all but the bag is frozen -/
theorem fr_full {F H : Hp} {b : Addr} (f : Fz.Fr F H b) : ∃ F', Fz.Fr F' H b ∧ Same F F' ∧ TupF F' H := by
  obtain ⟨l, hb⟩ := f.bag
  refine ⟨_, fr_start hb, fun y o e => ?_, fun p xs e => ?_⟩
  · show (if y = b then none else H y) = _
    rw [if_neg (f.ne e)]
    exact f.same _ _ e
  · obtain ⟨c0, c1, c2, ms, h1, _⟩ := hb
    show (if p = b then none else H p) = _
    rw [if_neg (fun z => by rw [z, h1] at e; cases e)]
    exact e
theorem cut_strs (ws : List Str) (lo hi : Option Int) : ∃ us : List Str, cutV (ws.map V.str) lo hi = us.map V.str ∧ us.Sublist ws := by
  unfold cutV
  exact ⟨_, by rw [← List.map_drop, ← List.map_take], (List.take_sublist _ _).trans (List.drop_sublist _ _)⟩
theorem cut_some {xs : List V} {i : Int} (h : 1 ≤ i) (hx : 1 ≤ xs.length) : 1 ≤ (cutV xs none (some i)).length := by
  unfold cutV
  have e1 : HT.sIx xs.length 0 none = 0 := rfl
  rw [e1, List.drop_zero, Nat.sub_zero, List.length_take]
  have : HT.sIx xs.length xs.length (some i) = min i.toNat xs.length := by
    show (if i < 0 then (i + (xs.length : Int)).toNat else min i.toNat xs.length) = _
    rw [if_neg (by omega)]
  rw [this]
  omega
theorem cut_one {xs : List V} {i : Int} (h : 2 ≤ i) (hx : 2 ≤ xs.length) : 1 ≤ (cutV xs (some 1) (some i)).length := by
  unfold cutV
  have e1 : HT.sIx xs.length 0 (some 1) = 1 := by
    show (if (1 : Int) < 0 then ((1 : Int) + (xs.length : Int)).toNat else min (1 : Int).toNat xs.length) = 1
    rw [if_neg (by omega)]
    show min 1 xs.length = 1
    omega
  have : HT.sIx xs.length xs.length (some i) = min i.toNat xs.length := by
    show (if i < 0 then (i + (xs.length : Int)).toNat else min i.toNat xs.length) = _
    rw [if_neg (by omega)]
  rw [e1, this, List.length_take, List.length_drop]
  omega
theorem lay_strs : ∀ l : List Str, (∀ w ∈ l, Tx w) → PyData.canLayAll0 (pyAll (l.map Dat.str)) = true
  | [], _ => rfl
  | w :: l, h => by
    show (PyData.canLay0 (.str w) && PyData.canLayAll0 (pyAll (l.map Dat.str))) = true
    rw [lay_strs l fun x hx => h x (List.mem_cons_of_mem _ hx)]
    rw [show PyData.canLay0 (.str w) = PyData.strOk w from rfl, (h w List.mem_cons_self).ok]
    rfl
/-- a rule is fit to be shown and compared -/
theorem rule_good {n : Int} {ds cs : List Str} {rs : List Rl} (wf : WfG n ds cs rs) {ru : Rl} (h : ru ∈ rs) : ru.dat.py.canLay0 = true ∧ Fine 40 sizeLine ru.dat := by
  have ok := wf.ok ru h
  have n64 := wf.n64
  have tx : ∀ w ∈ ru.told, Tx w := by
    intro w hw
    rcases List.mem_append.mp (ok.told1 w hw) with z | z
    · exact tx_name (wf.nc.ok _ z)
    · simp only [List.mem_cons, List.not_mem_nil, or_false] at z
      rcases z with rfl | rfl <;> exact tx_of (by decide +kernel)
  have td := tx_name (wf.nd.ok _ ok.door)
  have tk := kind_tx wf.nc ok.kind
  have s1 := ok.s1
  have l1 := ok.l1
  constructor
  · show (PyData.canLay0 (.str ru.door) && (true && (PyData.canLay0 (.str ru.kind) && (true && (true && (PyData.canLayAll0 (pyAll (ru.told.map Dat.str)) && true)))))) = true
    rw [lay_strs _ tx, show PyData.canLay0 (.str ru.door) = PyData.strOk ru.door from rfl, td.ok, show PyData.canLay0 (.str ru.kind) = PyData.strOk ru.kind from rfl, tk.ok]
    rfl
  · refine (fine_tup (k := 2) (n := 9000) (m := 6) (fun d hd => ?_) (Nat.le_refl _)).mono (by decide) (by decide)
    simp only [List.mem_cons, List.not_mem_nil, or_false] at hd
    rcases hd with rfl | rfl | rfl | rfl | rfl | rfl
    · exact td.fine.mono (by decide) (by decide)
    · exact (fine_state ok.s0 (by omega)).mono (by decide) (by decide)
    · exact tk.fine.mono (by decide) (by decide)
    · exact (fine_state ok.l0 (by omega)).mono (by decide) (by decide)
    · exact (fine_bl _).mono (by decide) (by decide)
    · refine (fine_tup (k := 1) (n := 82) (m := 100) (fun e he => ?_) (by rw [List.length_map]; exact wf.tl ru h)).mono (by decide) (by decide)
      obtain ⟨w, h, rfl⟩ := List.mem_map.mp he
      exact (tx w h).fine
theorem rule_hit {rs : List Rl} (nd : (rs.map Rl.key).Nodup) {ru : Rl} (h : ru ∈ rs) {d1 d2 d3 : Dat} (e : keyIs ru.door ru.state ru.kind d1 d2 d3 = true) : ruleOf rs d1 d2 d3 = some ru := by
  cases d1 <;> cases d2 <;> cases d3 <;> first | (cases e; done) | skip
  simp only [keyIs, Bool.and_eq_true, beq_iff_eq] at e
  obtain ⟨⟨rfl, rfl⟩, rfl⟩ := e
  exact (find_key nd).mpr ⟨h, rfl⟩
theorem rule_is {rs : List Rl} (nd : (rs.map Rl.key).Nodup) {ru : Rl} {d1 d2 d3 : Dat} (e : ruleOf rs d1 d2 d3 = some ru) : ru ∈ rs ∧ keyIs ru.door ru.state ru.kind d1 d2 d3 = true := by
  cases d1 <;> cases d2 <;> cases d3 <;> first | (cases e; done) | skip
  obtain ⟨h1, h2⟩ := (find_key nd).mp e
  refine ⟨h1, ?_⟩
  unfold Rl.key at h2
  simp only [List.cons.injEq, Sum.inr.injEq, Sum.inl.injEq, and_true] at h2
  obtain ⟨rfl, rfl, rfl⟩ := h2
  simp [keyIs]
theorem rep_dat {K : PySem.W.Frag} {H : Hp} {t : Addr} {ru : Rl} {y3 : V} (h : H t = some (.tup (ru.key.map kV ++ [.int ru.later, .bl ru.keeps, y3]))) (e3 : Rep K H y3 (.tup (ru.told.map .str))) : Rep K H (.ref t) ru.dat :=
  ⟨t, _, rfl, h, _, _, rfl, rfl, _, _, rfl, rfl, _, _, rfl, rfl, _, _, rfl, rfl, _, _, rfl, rfl, _, _, rfl, e3, rfl⟩
theorem rest_of {K : PySem.W.Frag} {H : Hp} {v : V} {ru : Rl} (h : Rep K H v ru.restD) : ∃ p y3, v = .ref p ∧ H p = some (.tup [.int ru.later, .bl ru.keeps, y3]) ∧ Rep K H y3 (.tup (ru.told.map .str)) := by
  obtain ⟨pv, _, rfl, hpv, y1, _, rfl, e1, y2, _, rfl, e2, y3, _, rfl, e3, rfl⟩ := h
  obtain rfl : y1 = .int ru.later := e1
  obtain rfl : y2 = .bl ru.keeps := e2
  exact ⟨pv, y3, rfl, hpv, e3⟩
theorem rest_at {K : PySem.W.Frag} {H : Hp} {kvs : List (List Key × V)} {rs : List Rl} (lr : LR K H kvs rs) (nd : (rs.map Rl.key).Nodup) {ru : Rl} (h : ru ∈ rs) :
    ∃ p y3, valV kvs ru.key = some (.ref p) ∧ H p = some (.tup [.int ru.later, .bl ru.keeps, y3]) ∧ Rep K H y3 (.tup (ru.told.map .str)) := by
  rcases val_rest lr ru.key with ⟨v, r, ev, ef, rv⟩ | ⟨_, ef⟩
  · have := (find_key nd).mpr ⟨h, rfl⟩
    rw [this] at ef
    cases ef
    obtain ⟨p, y3, rfl, hp, e3⟩ := rest_of rv
    exact ⟨p, y3, ev, hp, e3⟩
  · rw [(find_key nd).mpr ⟨h, rfl⟩] at ef
    cases ef
theorem key_self (ru : Rl) : keyIs ru.door ru.state ru.kind (.str ru.door) (.int ru.state) (.str ru.kind) = true := by simp [keyIs]
theorem key_at (ru : Rl) : atI (ru.key.map kV) 0 = some (V.str ru.door) ∧ atI (ru.key.map kV) 1 = some (V.int ru.state) ∧ atI (ru.key.map kV) 2 = some (V.str ru.kind) := by
  have a0 := atI_nat (xs := ru.key.map kV) (j := 0) (v := V.str ru.door) rfl
  have a1 := atI_nat (xs := ru.key.map kV) (j := 1) (v := V.int ru.state) rfl
  have a2 := atI_nat (xs := ru.key.map kV) (j := 2) (v := V.str ru.kind) rfl
  exact ⟨a0, a1, a2⟩
theorem RepRule.mono {K : PySem.W.Frag} {H H' : Hp} {v : V} {o : Option Rl} (h : RepRule K H v o) (s : Same H H') : RepRule K H' v o := by
  cases o with
  | none => exact h
  | some r => exact Rep.mono s _ h
theorem any_rule {rs1 rs2 : List Rl} (p : rs1.Perm rs2) (nd : (rs2.map Rl.key).Nodup) (e1 e2 e3 : Dat) :
    (if (rs1.any fun r => keyIs r.door r.state r.kind e1 e2 e3) = true then ruleOf rs2 e1 e2 e3 else none) = ruleOf rs2 e1 e2 e3 := by
  cases e : ruleOf rs2 e1 e2 e3 with
  | none => split <;> rfl
  | some ru =>
    obtain ⟨h1, h2⟩ := rule_is nd e
    rw [if_pos (List.any_eq_true.mpr ⟨ru, p.mem_iff.mpr h1, h2⟩)]
def spLaw (K : PySem.W.Frag) : Sp := fun vs H Q _ => ∃ (a : Addr) (ns : List Int), vs = [.ref a] ∧ SqL K H a (ns.map V.int) ∧ ns.length ≤ 63 ∧ ∀ H', Q (.bl true) H'
end K

set_option Elab.async false
set_option linter.all false
set_option maxRecDepth 100000
set_option maxHeartbeats 16000000
namespace K
open PySem PySem.Spec PyProof.Rows L2 G D L S C Sx Kx Ex Lt Qe
open Fz hiding Fr
open C8 (pss_cut tCut)
open PySem.W (dataLt alike AllAlike Sortable)
section
variable {P : Program} {w : World} {K : PySem.W.Frag} {mg : Str → Option Value} {base : Heap}
abbrev s_law : Stmt := top 28
theorem sc_law : FnScope ["script", "bag", "turn", "names", "closet", "gate", "found", "given", "key", "k", "door", "state", "kind", "rest", "odd", "said", "due", "kept"] ["script"] (defScope s_law) := ⟨rfl, rfl, rfl, by decide +kernel, rfl, by decide +kernel, by decide +kernel⟩
theorem ok_law {f C fK fR fC : Addr} {fd fdK fdR fdC : FuncData} (F : Fun K "law" "law" s_law f fd) (T : Bl mg) (hM : HasMods base) (gc : GCls K C) (oC : OwnC K C)
    (M_kind_of : Meth K C "kind_of" fK) (KO : Fn P w K mg base CX0 1 fK fdK ["self", "given"] (spKind K C)) (b_kind_of : Binds K fdK ["self", "given"] [])
    (M_rule_for : Meth K C "rule_for" fR) (RF : Fn P w K mg base CX0 3 fR fdR ["self", "door", "state", "kind"] (spRuleFor K C)) (b_rule_for : Binds K fdR ["self", "door", "state", "kind"] [])
    (M_call : Meth K C "call" fC) (CA : Fn P w K mg base CX0 4 fC fdC ["self", "state", "kept", "door", "given"] (spCall K C)) (b_call : Binds K fdC ["self", "state", "kept", "door", "given"] [])
    (D_law_bag : Def P w K mg base 2 "_law_bag" ["script"] (spBag K))
    (D_law_take : Def P w K mg base 2 "_law_take" ["bag", "many"] spTake)
    (D_law_one : Def P w K mg base 3 "_law_one" ["bag", "things"] spOne)
    (D_law_alike : Def P w K mg base 2 "_law_alike" ["found", "due"] (spAlike2 K))
    (D_law_menu : Def P w K mg base 4 "_law_menu" ["bag"] (spDraw K (Gnames 16)))
    (D_law_drawn_gate : Def P w K mg base 5 "_law_drawn_gate" ["bag", "states", "doors", "closet", "can_keep"] (spDrawnGate K))
    (D_law_gate : Def P w K mg base 7 "_law_gate" ["bag", "gate"] (spLawGate K C))
    (D_law_kind : Def P w K mg base 1 "_law_kind" ["gate", "given"] spLKind)
    (D_law_call : Def P w K mg base 2 "_law_call" ["gate", "state", "kept", "door", "given"] (spLCall K))
    (D_law_key_odd : Def P w K mg base 5 "_law_key_odd" ["bag", "gate"] (spKeyOdd K))
    (D_law_row_right : Def P w K mg base 5 "_law_row_right" ["bag", "gate", "found", "names"] (spRowRight K C)) :
    Fn P w K mg base CX0 8 f fd ["script"] (spLaw K) := by
  refine fn_calm F sc_law (fun vs H Q E h => ?_) (fun cdv A outer s H vs Q E hc hr h => ?_)
  · obtain ⟨a, ns, rfl, _⟩ := h
    rfl
  · obtain ⟨a, ns, rfl, hS, hl, k⟩ := h
    have hu := hu_of hr
    have hu64 := hr.units
    have hu110 : (A.deeper (envOfC "law" (defScope s_law) s.heap.objs.size f cdv)).units + 110 < cLine := by
      have := hr.un
      omega
    refine ⟨_, (pss_cons (ps_set (i := 1) sc_law.nd rfl (Or.inl rfl) (pe_def D_law_bag hc (hr.mono (by decide)) (pa_cons (pv 0) pa_nil)))
 (pss_cons (ps_for PassesOwn.never rfl (pi_range1 rfl T.rangeN (pa_cons pe_int pa_nil)) (pg_name (i := 2) sc_law.nd rfl (Or.inl rfl))
  (pss_cons (ps_set (i := 3) sc_law.nd rfl (Or.inl rfl) (pe_def D_law_menu hc (hr.mono (by decide)) (pa_cons (pv 1) pa_nil)))
 (pss_cons (ps_set (i := 4) sc_law.nd rfl (Or.inl rfl) (pe_slice sl_list (pv 3) (po_some pe_int) (po_some (pe_op op_add pe_int (pe_def D_law_take hc (hr.mono (by decide)) (pa_cons (pv 1) (pa_cons pe_int pa_nil)))))))
 (pss_cons (ps_set (i := 5) sc_law.nd rfl (Or.inl rfl) (pe_def D_law_drawn_gate hc (hr.mono (by decide)) (pa_cons (pv 1) (pa_cons (pe_def D_law_one hc (hr.mono (by decide)) (pa_cons (pv 1) (pa_cons (pe_lit (d := .lst [.int 1, .int 2, .int 3, .int 4, .int 64]) 9 (by rfl) (by rfl)) pa_nil))) (pa_cons (pe_slice sl_list (pv 3) po_none (po_some (pe_op op_add pe_int (pe_def D_law_take hc (hr.mono (by decide)) (pa_cons (pv 1) (pa_cons pe_int pa_nil)))))) (pa_cons (pv 4) (pa_cons pe_bl pa_nil)))))))
 (pss_cons (ps_dput hu (pe_dget hu (pv 5) pe_str (fun _ _ => rfl)) (pe_tup (pa_cons (pe_ix ix_list (pe_dget hu (pv 5) pe_str (fun _ _ => rfl)) pe_int (fun _ _ => rfl)) (pa_cons pe_int (pa_cons pe_str pa_nil)))) (pe_tup (pa_mix 9 2 (ds := [.int 0, .bl true]) (by rfl) (by rfl) (pa_cons (pe_op op_catT (pe_lit (d := .tup [.str "+given", .str "+kept"]) 9 (by rfl) (by rfl)) (pe_callTy call_tuple_of (by rfl) T.tupleN (by decide +kernel) (pa_cons (pe_dget hu (pv 5) pe_str (fun _ _ => rfl)) pa_nil))) pa_nil))) rfl)
 (pss_cons (ps_set (i := 6) sc_law.nd rfl (Or.inl rfl) (pe_def D_law_gate hc (hr.mono (by decide)) (pa_cons (pv 1) (pa_cons (pv 5) pa_nil))))
 (pss_cons (ps_if (PW.pt (pw_or (pt_cmpR op_notN (pe_mth (pv 6) gc.cl M_rule_for RF hc (hr.mono (by decide)) b_rule_for .nil pass0 (pa_cons (pv 6) (pa_cons pe_int (pa_cons pe_str pa_nil)))) pe_non (nomark _)) (pw_or1 (pt_cmpR op_notN (pe_mth (pv 6) gc.cl M_rule_for RF hc (hr.mono (by decide)) b_rule_for .nil pass0 (pa_cons (pe_ix ix_list (pe_dget hu (pv 5) pe_str (fun _ _ => rfl)) pe_int (fun _ _ => rfl)) (pa_cons pe_int (pa_cons (pv 6) pa_nil)))) pe_non (nomark _)))))
  (pss_one (ps_ret pe_bl))
  pss_nil)
 (pss_cons (ps_for PassesOwn.never rfl (pi_list (pe_op op_cat (pe_slice sl_list (pv 3) po_none (po_some pe_int)) (pe_lit (d := .lst [.str ""]) 9 (by rfl) (by rfl)))) (pg_name (i := 7) sc_law.nd rfl (Or.inl rfl))
  (pss_one (ps_if (pt_not (pt_val (pe_def D_law_alike hc (hr.mono (by decide)) (pa_cons (pe_mth (pv 6) gc.cl M_kind_of KO hc (hr.mono (by decide)) b_kind_of .nil pass0 (pa_cons (pv 7) pa_nil)) (pa_cons (pe_def D_law_kind hc (hr.mono (by decide)) (pa_cons (pv 5) (pa_cons (pv 7) pa_nil))) pa_nil)))))
  (pss_one (ps_ret pe_bl))
  pss_nil)))
 (pss_cons (ps_for PassesOwn.never rfl (pi_list (pe_callB (call_sortedT rfl hu64) (by rfl) T.sortedN (by decide +kernel) (pa_cons (pe_dget hu (pv 5) pe_str (fun _ _ => rfl)) pa_nil))) (pg_name (i := 8) sc_law.nd rfl (Or.inl rfl))
  (pss_one (ps_if (pt_not (pt_val (pe_def D_law_alike hc (hr.mono (by decide)) (pa_cons (pe_mth (pv 6) gc.cl M_rule_for RF hc (hr.mono (by decide)) b_rule_for .nil pass0 (pa_cons (pe_ix ix_tup (pv 8) pe_int (fun _ _ => rfl)) (pa_cons (pe_ix ix_tup (pv 8) pe_int (fun _ _ => rfl)) (pa_cons (pe_ix ix_tup (pv 8) pe_int (fun _ _ => rfl)) pa_nil)))) (pa_cons (pe_op op_catT (pv 8) (pe_dget hu (pe_dget hu (pv 5) pe_str (fun _ _ => rfl)) (pv 8) (fun _ _ => rfl))) pa_nil)))))
  (pss_one (ps_ret pe_bl))
  pss_nil)))
 (pss_cons (ps_for PassesOwn.never rfl (pi_range1 rfl T.rangeN (pa_cons pe_int pa_nil)) (pg_name (i := 9) sc_law.nd rfl (Or.inl rfl))
  (pss_cons (ps_par (i := 10) (j := 11) (by rfl) sc_law.nd rfl rfl (by decide) rfl rfl (pa_cons (pe_def D_law_one hc (hr.mono (by decide)) (pa_cons (pv 1) (pa_cons (pe_dget hu (pv 5) pe_str (fun _ _ => rfl)) pa_nil))) (pa_cons (pe_def D_law_take hc (hr.mono (by decide)) (pa_cons (pv 1) (pa_cons (pe_dget hu (pv 5) pe_str (fun _ _ => rfl)) pa_nil))) pa_nil)) (by rfl))
 (pss_cons (ps_set (i := 12) sc_law.nd rfl (Or.inl rfl) (pe_def D_law_one hc (hr.mono (by decide)) (pa_cons (pv 1) (pa_cons (pe_op op_cat (pe_lit (d := .lst [.str "", .str "?"]) 9 (by rfl) (by rfl)) (pe_dget hu (pv 5) pe_str (fun _ _ => rfl))) pa_nil))))
 (pss_cons (ps_set (i := 13) sc_law.nd rfl (Or.inl rfl) (pe_dget2 hu (pe_dget hu (pv 5) pe_str (fun _ _ => rfl)) (pe_tup (pa_cons (pv 10) (pa_cons (pv 11) (pa_cons (pv 12) pa_nil)))) pe_non ⟨by rfl, by rfl, by rfl, by rfl⟩))
 (pss_cut (ps_if (pt_not (pt_val (pe_def D_law_alike hc (hr.mono (by decide)) (pa_cons (pe_mth (pv 6) gc.cl M_rule_for RF hc (hr.mono (by decide)) b_rule_for .nil pass0 (pa_cons (pv 10) (pa_cons (pv 11) (pa_cons (pv 12) pa_nil)))) (pa_cons (pe_ifExp (pt_cmpR op_isN (pv 13) pe_non (nomark _)) pe_non (pe_op op_catT (pe_tup (pa_cons (pv 10) (pa_cons (pv 11) (pa_cons (pv 12) pa_nil)))) (pv 13))) pa_nil)))))
  (pss_one (ps_ret pe_bl))
  pss_nil)
 (pss_cons (ps_set (i := 14) sc_law.nd rfl (Or.inl rfl) (pe_def D_law_key_odd hc (hr.mono (by decide)) (pa_cons (pv 1) (pa_cons (pv 5) pa_nil))))
 (pss_cons (ps_par (i := 15) (j := 16) (by rfl) sc_law.nd rfl rfl (by decide) rfl rfl (pa_cons (pe_callB (call_repr hc hM hu110) (by rfl) T.reprN (by decide +kernel) (pa_cons (pv 14) pa_nil)) (pa_cons pe_non pa_nil)) (by rfl))
 (pss_cons (ps_for PassesOwn.never rfl (pi_list (pe_callB (call_sortedT rfl hu64) (by rfl) T.sortedN (by decide +kernel) (pa_cons (pe_dget hu (pv 5) pe_str (fun _ _ => rfl)) pa_nil))) (pg_name (i := 8) sc_law.nd rfl (Or.inl rfl))
  (pss_one (ps_set (i := 16) sc_law.nd rfl (Or.inl rfl) (pe_ifExp (pt_val (pe_def D_law_alike hc (hr.mono (by decide)) (pa_cons (pe_callTy call_list_of (by rfl) T.listN (by decide +kernel) (pa_cons (pv 8) pa_nil)) (pa_cons (pv 14) pa_nil)))) (pe_op op_catT (pv 8) (pe_dget hu (pe_dget hu (pv 5) pe_str (fun _ _ => rfl)) (pv 8) (fun _ _ => rfl))) (pv 16)))))
 (pss_cons (ps_if (PW.pt (pw_or (pt_not (pt_val (pe_def D_law_alike hc (hr.mono (by decide)) (pa_cons (pe_mth (pv 6) gc.cl M_rule_for RF hc (hr.mono (by decide)) b_rule_for .nil pass0 (pa_cons (pe_ix ix_list (pv 14) pe_int (fun _ _ => rfl)) (pa_cons (pe_ix ix_list (pv 14) pe_int (fun _ _ => rfl)) (pa_cons (pe_ix ix_list (pv 14) pe_int (fun _ _ => rfl)) pa_nil)))) (pa_cons (pv 16) pa_nil))))) (pw_or1 (pt_cmpR op_ne (pe_callB (call_repr hc hM hu110) (by rfl) T.reprN (by decide +kernel) (pa_cons (pv 14) pa_nil)) (pv 15) (nomark _)))))
  (pss_one (ps_ret pe_bl))
  pss_nil)
 (pss_cons (ps_par (i := 17) (j := 7) (by rfl) sc_law.nd rfl rfl (by decide) rfl rfl (pa_cons (pe_def D_law_one hc (hr.mono (by decide)) (pa_cons (pv 1) (pa_cons (pe_op op_cat (pe_lit (d := .lst [.str ""]) 9 (by rfl) (by rfl)) (pe_slice sl_list (pv 3) po_none (po_some pe_int))) pa_nil))) (pa_cons (pe_def D_law_one hc (hr.mono (by decide)) (pa_cons (pv 1) (pa_cons (pe_op op_cat (pe_lit (d := .lst [.str ""]) 9 (by rfl) (by rfl)) (pe_slice sl_list (pv 3) po_none (po_some pe_int))) pa_nil))) pa_nil)) (by rfl))
 (pss_one (ps_if (pt_not (pt_val (pe_def D_law_alike hc (hr.mono (by decide)) (pa_cons (pe_mth (pv 6) gc.cl M_call CA hc (hr.mono (by decide)) b_call .nil pass0 (pa_cons (pv 11) (pa_cons (pv 17) (pa_cons (pv 10) (pa_cons (pv 7) pa_nil))))) (pa_cons (pe_def D_law_call hc (hr.mono (by decide)) (pa_cons (pv 5) (pa_cons (pv 11) (pa_cons (pv 17) (pa_cons (pv 10) (pa_cons (pv 7) pa_nil)))))) pa_nil)))))
  (pss_one (ps_ret pe_bl))
  pss_nil))))))))))))
 (pss_one (ps_if (pt_not (pt_val (pe_def D_law_row_right hc (hr.mono (by decide)) (pa_cons (pv 1) (pa_cons (pv 5) (pa_cons (pv 6) (pa_cons (pe_slice sl_list (pv 3) po_none (po_some pe_int)) pa_nil)))))))
  (pss_one (ps_ret pe_bl))
  pss_nil))))))))))))
 (pss_one (ps_ret pe_bl)))), ?_⟩
    refine ⟨_, rfl, a, ns, rfl, hS, hl, fun b l H1 nb nl s1 hb => ?_⟩
    have fr0 := fr_start hb
    generalize (fun y => if y = b then none else H1 y) = F0 at fr0
    refine ⟨6, rfl, by decide, by decide, ?_⟩
    refine for_range (n := 6) (fun i σ H' => ∃ (o2 o3 o4 o5 o6 o7 o8 o9 o10 o11 o12 o13 o14 o15 o16 o17 : Option V) (F' : Hp), σ = [some (.ref a), some (.ref b), o2, o3, o4, o5, o6, o7, o8, o9, o10, o11, o12, o13, o14, o15, o16, o17] ∧ Fz.Fr F' H' b)
      ⟨none, none, none, none, none, none, none, none, none, none, none, none, none, none, none, none, F0, rfl, fr0⟩ ?_ ?_
    · rintro i σ H2 hi ⟨o2, o3, o4, o5, o6, o7, o8, o9, o10, o11, o12, o13, o14, o15, o16, o17, F2, rfl, fr2⟩
      -- names
      refine ⟨_, rfl, b, F2, rfl, fr2, fun v dm F3 H3 g3 r3 gm => ?_⟩
      obtain ⟨nm, rfl, nmd, nml, nms⟩ := gm.ex
      obtain ⟨p3, x3, rfl, hp3, q3⟩ := r3
      obtain rfl := RepAll.strs q3
      have fr3 := g3.fr
      -- closet
      refine ⟨_, rfl, 1, rfl, _, rfl, b, 4, rfl, fr3.bag, by decide, by decide, fun k4 H4 a0 a1 sb4 bt4 => ?_⟩
      have fr4 := fr3.took sb4 bt4
      refine ⟨_, _, rfl, rfl, _, rfl, p3, _, rfl, SqL.of (fr4.same _ _ hp3), fun p5 hp5 => ?_⟩
      obtain ⟨cs0, ec, sc⟩ := cut_strs nm (some 1) (some (2 + k4))
      have lc := cut_one (xs := nm.map V.str) (i := 2 + k4) (by omega) (by rw [List.length_map, nml]; decide)
      rw [ec, List.length_map] at lc
      rw [ec]
      obtain ⟨F5, fr5, s5, at5⟩ := fr4.put' (o := .lst (cs0.map .str)) hp5
      -- the law's own gate
      refine ⟨_, rfl, _, rfl, fun v6 N6 H6 n6 r6 => ?_⟩
      obtain ⟨F6, fr6, s6, t6⟩ := fr5.lit' n6
      obtain ⟨p6, x6, rfl, hp6, q6⟩ := Rep.mono t6 _ r6
      have l6 := q6.length
      refine ⟨b, p6, x6, rfl, fr6.bag, fr6.same _ _ hp6, fr6.ne hp6, fun z => (by rw [z] at l6; cases l6), by rw [l6]; decide, fun v7 H7 hv7 sb7 bt7 => ?_⟩
      have fr7 := fr6.took sb7 bt7
      obtain ⟨n, rfl, n1, n64⟩ : ∃ n : Int, v7 = .int n ∧ 1 ≤ n ∧ n ≤ 64 := by
        obtain ⟨d7, hd7, rd7⟩ := rep_mem q6 hv7
        simp only [List.mem_cons, List.not_mem_nil, or_false] at hd7
        rcases hd7 with rfl | rfl | rfl | rfl | rfl <;> exact ⟨_, rd7, by decide, by decide⟩
      refine ⟨_, rfl, _, rfl, b, 3, rfl, fr7.bag, by decide, by decide, fun k8 H8 c0 c1 sb8 bt8 => ?_⟩
      have fr8 := fr7.took sb8 bt8
      refine ⟨_, _, rfl, rfl, _, rfl, p3, _, rfl, SqL.of (fr8.same _ _ (s6 _ _ (s5 _ _ hp3))), fun p9 hp9 => ?_⟩
      obtain ⟨ds0, ed, sd⟩ := cut_strs nm none (some (1 + k8))
      have ld := cut_some (xs := nm.map V.str) (i := 1 + k8) (by omega) (by rw [List.length_map, nml]; decide)
      rw [ed, List.length_map] at ld
      rw [ed]
      obtain ⟨F9, fr9, s9, at9⟩ := fr8.put' (o := .lst (ds0.map .str)) hp9
      have nmN : Names nm := ⟨nmd, nms, by omega⟩
      have sub : ∀ {us : List Str}, us.Sublist nm → Names us := fun q => ⟨q.nodup nmd, fun w hw => nms w (q.subset hw), Nat.le_trans q.length_le nmN.len⟩
      have nd0 := sub sd
      have nc0 := sub sc
      have lcs : cs0.length ≤ 16 := by have := sc.length_le; omega
      refine ⟨_, rfl, b, n, .ref p9, .ref p5, true, F9, ds0, cs0, rfl, fr9, ⟨p9, _, rfl, at9, RepAll.of_strs _⟩, ⟨p5, _, rfl, s9 _ _ (s6 _ _ at5), RepAll.of_strs _⟩, n1, n64, nd0, nc0, (fun z => by rw [z] at ld; exact absurd ld (by decide)), lcs, fun g r kvs rs ds cs F10 H10 own10 lg10 pds pcs lr10 ndk10 lrs10 oks10 => ?_⟩
      have nd := nd0.perm pds
      have nc := nc0.perm pcs
      have hnm10 := own10.go.up _ _ (s9 _ _ (s6 _ _ (s5 _ _ hp3)))
      have ldl : ds.length = ds0.length := pds.length_eq
      have lcl : cs.length = cs0.length := pcs.length_eq
      obtain ⟨d, c, hg, hd, hC⟩ := lg10.ex
      obtain ⟨d1, dr, rfl⟩ : ∃ d1 dr, ds = d1 :: dr := by
        cases ds with
        | nil => simp at ldl; omega
        | cons x y => exact ⟨x, y, rfl⟩
      -- one rule more
      intro vs11 N11 H11 n11 r11
      obtain ⟨z1, _, rfl, y1, z2, _, rfl, y2, rfl⟩ := r11
      obtain rfl : z1 = .int 0 := y1
      obtain rfl : z2 = .bl true := y2
      have own11 := own10.on ((Go.refl own10.go.fr).grow n11.old)
      refine fun v12 N12 H12 n12 r12 => ?_
      obtain ⟨F12, g12, s12, t12⟩ := (Go.refl own11.go.fr).lit' n12
      have own12 := own11.on g12
      obtain ⟨p12, x12, rfl, hp12, q12⟩ := Rep.mono t12 _ r12
      obtain rfl : x12 = (["+given", "+kept"] : List Str).map V.str := RepAll.strs (xs := ["+given", "+kept"]) q12
      refine ⟨_, rfl, g, _, rfl, dg (own12.go.same _ _ (s12 _ _ hg)) (lg_closet n d c r), c, _, rfl, .inl ⟨SqL.of (own12.go.same _ _ (s12 _ _ hC)), fun p13 hp13 => ?_⟩⟩
      obtain ⟨F13, g13, s13, at13⟩ := (Go.refl own12.go.fr).put' (o := .tup (cs.map .str)) hp13
      have own13 := own12.on g13
      have cne : cs.map V.str ≠ [] := fun z => by
        have := List.length_eq_zero_iff.mpr (List.map_eq_nil_iff.mp z)
        omega
      refine ⟨p12, p13, _, _, rfl, rfl, SqT.of (own13.go.same _ _ (s13 _ _ hp12)), SqT.of upd_same, by simp, ?_, fun z => absurd z cne, fun _ p14 hp14 => ?_⟩
      · rw [List.length_map, List.length_map]
        exact Nat.le_trans (Nat.add_le_add_left (by omega : cs.length ≤ 16) _) (by decide)
      obtain ⟨F14, g14, s14, at14⟩ := (Go.refl own13.go.fr).put' (o := .tup ((["+given", "+kept"] : List Str).map V.str ++ cs.map V.str)) hp14
      have own14 := own13.on g14
      refine ⟨by show 3 ≤ sizeLine; decide, fun p15 hp15 => ?_⟩
      obtain ⟨F15, g15, s15, at15⟩ := (Go.refl own14.go.fr).put' (o := .tup [.int 0, .bl true, .ref p14]) hp15
      have own15 := own14.on g15
      have at0 : atI ((d1 :: dr).map V.str) 0 = some (V.str d1) := by
        have := atI_nat (xs := (d1 :: dr).map V.str) (j := 0) (v := V.str d1) rfl
        exact this
      have u15 := ((s12.trans s13).trans s14).trans s15
      refine ⟨_, rfl, g, _, rfl, dg (own15.go.same _ _ (u15 _ _ hg)) (lg_rules n d c r), _, rfl, g, _, rfl, dg (own15.go.same _ _ (u15 _ _ hg)) (lg_doors n d c r), d, _, 0, .str d1, rfl, rfl, SqL.of (own15.go.same _ _ (u15 _ _ hd)), at0, by show 3 ≤ sizeLine; decide, fun p16 hp16 => ?_⟩
      have own16 := own15.on ((Go.refl own15.go.fr).grow (same_upd (o := .tup [.str d1, .int 0, .str "?"]) hp16))
      have at16 : (upd (upd (upd (upd H12 p13 (.tup (cs.map V.str))) p14 (.tup ((["+given", "+kept"] : List Str).map V.str ++ cs.map V.str))) p15 (.tup [.int 0, .bl true, .ref p14])) p16 (.tup [.str d1, .int 0, .str "?"])) p16 = some (.tup [.str d1, .int 0, .str "?"]) := upd_same
      have n0 : (0 : Int) < n := by omega
      obtain ⟨ru, eru⟩ : ∃ ru : Rl, ru = ⟨d1, 0, "?", 0, true, (["+given", "+kept"] : List Str) ++ cs⟩ := ⟨_, rfl⟩
      have lkv : kvs.length ≤ 7 := by
        have := congrArg List.length lr10.ks
        rw [List.length_map, List.length_map] at this
        omega
      refine ⟨r, _, rfl, .inr ⟨kvs, ru.key, p16, own16.at1, rfl, by rw [eru]; exact at16, Nat.lt_of_le_of_lt lkv (by decide), rfl⟩, ?_⟩
      have rv15 : Rep K F15 (.ref p15) ru.restD := by
        rw [eru]
        refine ⟨p15, _, rfl, at15, _, _, rfl, rfl, _, _, rfl, rfl, _, _, rfl, ⟨p14, _, rfl, s15 _ _ at14, ?_⟩, rfl⟩
        have := RepAll.of_strs (K := K) (H := F15) ((["+given", "+kept"] : List Str) ++ cs)
        rw [List.map_append] at this
        exact this
      have up1015 := g12.up.trans ((s13.trans s14).trans s15)
      obtain ⟨lr17, ndk17, mem17, len17, ne17⟩ := lr_put rv15 (lr10.mono (s12.trans ((s13.trans s14).trans s15))) ndk10
      have own17 := own16.set (putK kvs ru.key (.ref p15))
      obtain ⟨go17, s17⟩ := own17.end
      have u17 := u15.trans s17
      have lgf17 : LGF K (upd F15 r (.dT (putK kvs ru.key (.ref p15)))) g n (d1 :: dr) cs (putR rs ru) := ⟨r, _, lg10.mono u17, upd_same, lr17.mono s17⟩
      have wf : WfG n (d1 :: dr) cs (putR rs ru) := by
        refine ⟨n1, n64, nd, nc, by simp, by omega, fun q hq => ?_, fun q hq => ?_, ndk17, by omega⟩
        · rcases mem17 q hq with h | rfl
          · exact (oks10 q h).1
          · rw [eru]
            refine ⟨by simp, Int.le_refl _, n0, by simp, Int.le_refl _, n0, fun e => absurd (show ("?" : Str) = "" from e) (by decide +kernel), fun w hw => ?_, ?_⟩
            · rcases List.mem_append.mp hw with hw | hw
              · refine List.mem_append_right _ ?_
                simp only [List.mem_cons, List.not_mem_nil, or_false] at hw ⊢
                rcases hw with h | h <;> simp [h]
              · exact List.mem_append_left _ hw
            · show ((["+given", "+kept"] : List Str) ++ cs).length ≤ 1000
              rw [List.length_append]
              exact Nat.le_trans (Nat.add_le_add_left (by omega : cs.length ≤ 16) _) (by decide)
        · rcases mem17 q hq with h | rfl
          · exact Nat.le_trans (oks10 q h).2 (by decide)
          · rw [eru]
            show ((["+given", "+kept"] : List Str) ++ cs).length ≤ 100
            rw [List.length_append]
            exact Nat.le_trans (Nat.add_le_add_left (by omega : cs.length ≤ 16) _) (by decide)
      have hnm17 := u17 _ _ hnm10
      have fr17 := go17.fr
      clear own10 own11 own12 own13 own14 own15 own16 own17 g12 g13 g14 g15
      generalize upd F15 r (.dT (putK kvs ru.key (.ref p15))) = F17 at lgf17 go17 s17 hnm17 fr17 u17
      generalize putR rs ru = rs2 at lgf17 wf ne17
      refine ⟨_, rfl, _, rfl, b, g, F17, n, d1 :: dr, cs, rs2, rfl, fr17, lgf17, wf, fun x us ws rs' F18 H18 g18 ga18 pus pws prs => ?_⟩
      have fr18 := g18.fr
      have lgf18 := lgf17.mono g18.up
      have hnm18 := g18.up _ _ hnm17
      clear lgf17 hnm17 fr17 go17 g18 s17 u17 lg10 hg hd hC lr10 hp3 s5 s6 s9 fr2 fr3 fr4 fr5 fr6 fr7 fr8 fr9 g3
      obtain ⟨r, kvs, lg, hR, lr⟩ := lgf18.ex
      obtain ⟨d, c, hg, hd, hC⟩ := lg.ex
      obtain ⟨dx, gd, gcl, gr, gkvs, gus, gws, h1, h2, h3, h4, h5, h6, h7, h8⟩ := id ga18.ex
      have nlR : ([("_states", .int n), ("_doors", .ref gd), ("_closet", .ref gcl), ("_rules", .ref gr)] : List (Str × V)).lookup ("rule_for" : Str) = none := rfl
      have nlK : ([("_states", .int n), ("_doors", .ref gd), ("_closet", .ref gcl), ("_rules", .ref gr)] : List (Str × V)).lookup ("kind_of" : Str) = none := rfl
      have nlC : ([("_states", .int n), ("_doors", .ref gd), ("_closet", .ref gcl), ("_rules", .ref gr)] : List (Str × V)).lookup ("call" : Str) = none := rfl
      have rob : ∀ {H' : Hp}, Same F18 H' → Rep K H' (.ref x) (.obj C x) := fun s => ⟨rfl, oC, dx, _, s _ _ h1⟩
      refine ⟨_, rfl, x, dx, _, rfl, fr18.same _ _ h1, nlR, _, rfl, x, .ref x, .int 0, .str "", .obj C x, .int 0, .str "", n, us, ws, rs', rfl, ga18.mono fr18.same, rob fr18.same, rfl, rfl, fun v19 H19 s19 rr19 => ⟨rfl, _, rfl, ?_⟩⟩
      obtain rfl : v19 = .non := rr19
      refine iteF ?_
      have fr19 := fr18.grow s19
      refine ⟨_, rfl, x, dx, _, rfl, fr19.same _ _ h1, nlR, _, rfl, g, _, rfl, dg (fr19.same _ _ hg) (lg_doors n d c r), d, _, 0, .str d1, rfl, rfl, SqL.of (fr19.same _ _ hd), at0, _, rfl, x, .str d1, .int 0, .ref x, .str d1, .int 0, .obj C x, n, us, ws, rs', rfl, ga18.mono fr19.same, rfl, rfl, rob fr19.same, fun v20 H20 s20 rr20 => ⟨rfl, _, rfl, ?_⟩⟩
      obtain rfl : v20 = .non := rr20
      refine iteF ?_
      have fr20 := fr19.grow s20
      -- the kinds
      refine ⟨_, rfl, 8, rfl, p3, _, rfl, SqL.of (fr20.same _ _ hnm18), fun p21 hp21 => ?_⟩
      obtain ⟨n8, e8, sub8⟩ := cut_strs nm none (some 8)
      rw [e8]
      obtain ⟨F21, fr21, s21, at21⟩ := fr20.put' (o := .lst (n8.map .str)) hp21
      have l8 : n8.length ≤ 16 := by have := sub8.length_le; omega
      refine fun v22 N22 H22 n22 r22 => ?_
      obtain ⟨F22, fr22, s22, t22⟩ := fr21.lit' n22
      obtain ⟨p22, x22, rfl, hp22, q22⟩ := Rep.mono t22 _ r22
      obtain rfl : x22 = ([""] : List Str).map V.str := RepAll.strs (xs := [""]) q22
      refine ⟨p21, p22, _, _, rfl, rfl, fr22.same _ _ (s22 _ _ at21), fr22.same _ _ hp22, by rw [List.length_map, List.length_map]; exact Nat.le_trans (Nat.add_le_add_right l8 _) (by decide), fun p23 hp23 => ?_⟩
      rw [← List.map_append]
      obtain ⟨F23, fr23, s23, at23⟩ := fr22.put' (o := .lst ((n8 ++ ([""] : List Str)).map .str)) hp23
      have s1823 := (s21.trans s22).trans s23
      have nm8 : ∀ y ∈ n8 ++ ([""] : List Str), Nm y := fun y hy => by
        rcases List.mem_append.mp hy with h | h
        · exact .inr (nms y (sub8.subset h))
        · rw [List.mem_singleton] at h
          exact .inl h
      refine ⟨p23, rfl, ⟨_, SqL.of upd_same⟩, for_list (K := K) (a := p23) (xs := (n8 ++ ([""] : List Str)).map V.str) (fun j σ H' => ∃ (o7 : Option V), σ = [some (.ref a), some (.ref b), some (.int (0 + (i : Nat))), some (.ref p3), some (.ref p5), some (.ref g), some (.ref x), o7, o8, o9, o10, o11, o12, o13, o14, o15, o16, o17] ∧ Fz.Fr F23 H' b)
        ⟨_, rfl, fr23⟩ (fun j σ H' _ h => ?_) ?_ ?_⟩
      · obtain ⟨_, _, h⟩ := h
        exact SqL.of (h.same _ _ at23)
      · rintro j y σ H24 hy ⟨o7, rfl, fr24⟩
        obtain ⟨gi, hgi, rfl⟩ := mem_strs (List.mem_of_getElem? hy)
        have ngi := nm8 gi hgi
        have s24 := s1823.trans fr24.same
        refine ⟨_, rfl, x, dx, _, rfl, s24 _ _ h1, nlK, _, rfl, x, gi, n, us, ws, rs', rfl, ga18.mono s24, ?_⟩
        refine ⟨_, rfl, _, rfl, g, r, gi, n, d1 :: dr, cs, rfl, lg.mono s24, ?_⟩
        rw [kind_perm pws]
        have tk : Tx (kindOf cs gi) := by
          unfold kindOf
          split
          · exact ngi.tx
          · exact tx_of (by decide +kernel)
        refine .inl ⟨_, _, .str (kindOf cs gi), rfl, rfl, rfl, tk.ok, tk.fine.mono (by decide) (by decide), _, rfl, ?_⟩
        refine iteF ?_
        exact ⟨_, rfl, fr24⟩
      rintro σ H24 ⟨o7, rfl, fr24⟩
      -- the keys
      obtain ⟨F25, fr25, s25, tf25⟩ := fr_full fr24
      have s1825 := s1823.trans s25
      refine ⟨_, rfl, g, _, rfl, dg (fr25.same _ _ (s1825 _ _ hg)) (lg_rules n d c r), r, kvs, rfl, .inl (fr25.same _ _ (s1825 _ _ hR)), ord_kvs lr.ks, fun p26 ys hp26 hys ly => ?_⟩
      obtain ⟨rs1, p1, hks⟩ := keys_sorted tf25 lr.ks hys
      obtain ⟨F26, fr26, s26, at26⟩ := fr25.put' (o := .lst ys) hp26
      have s1826 := s1825.trans s26
      refine ⟨p26, rfl, ⟨_, SqL.of upd_same⟩, for_list (K := K) (a := p26) (xs := ys) (fun j σ H' => ∃ (o8 : Option V), σ = [some (.ref a), some (.ref b), some (.int (0 + (i : Nat))), some (.ref p3), some (.ref p5), some (.ref g), some (.ref x), o7, o8, o9, o10, o11, o12, o13, o14, o15, o16, o17] ∧ Fz.Fr F26 H' b)
        ⟨_, rfl, fr26⟩ (fun j σ H' _ h => ?_) ?_ ?_⟩
      · obtain ⟨_, _, h⟩ := h
        exact SqL.of (h.same _ _ at26)
      · rintro j y σ H27 hy ⟨o8, rfl, fr27⟩
        obtain ⟨dy, hdy, ry⟩ := hks.get hy
        rw [List.map_map] at hdy
        obtain ⟨ru, hru, rfl⟩ := List.mem_map.mp (List.mem_of_getElem? hdy)
        have hru := p1.mem_iff.mp hru
        obtain ⟨ka, rfl, hka⟩ := key_rep ry
        have s27 := s1826.trans fr27.same
        have hka27 := fr27.same _ _ (s26 _ _ hka)
        obtain ⟨ka0, ka1, ka2⟩ := key_at ru
        refine ⟨_, rfl, x, dx, _, rfl, s27 _ _ h1, nlR, _, rfl, ka, _, 0, _, rfl, rfl, SqT.of hka27, ka0, _, rfl, ka, _, 1, _, rfl, rfl, SqT.of hka27, ka1, _, rfl, ka, _, 2, _, rfl, rfl, SqT.of hka27, ka2,
          x, _, _, _, .str ru.door, .int ru.state, .str ru.kind, n, us, ws, rs', rfl, ga18.mono s27, rfl, rfl, rfl, fun v28 H28 s28 rr28 => ?_⟩
        rw [rule_perm prs wf.ks, rule_hit wf.ks hru (key_self ru)] at rr28
        have s1828 := s27.trans s28
        obtain ⟨pr, y3, ev, hpr, e3⟩ := rest_at lr wf.ks hru
        refine ⟨_, rfl, _, rfl, g, _, rfl, dg (s1828 _ _ hg) (lg_rules n d c r), _, rfl, r, _, rfl, .inr ⟨kvs, ru.key, ka, .inl (s1828 _ _ hR), rfl, s28 _ _ hka27, ev.symm⟩, ka, pr, _, _, rfl, rfl, SqT.of (s28 _ _ hka27), SqT.of (s1828 _ _ hpr), by simp [Rl.key], (show 3 + 3 ≤ sizeLine by decide), fun z => (by cases z), fun _ t ht => ?_⟩
        have st := same_upd (o := .tup (ru.key.map kV ++ [.int ru.later, .bl ru.keeps, y3])) ht
        obtain ⟨lay, fine⟩ := rule_good wf hru
        refine .inl ⟨v28, .ref t, ru.dat, rfl, Rep.mono st _ rr28, rep_dat upd_same (Rep.mono (s1828.trans st) _ e3), lay, fine, _, rfl, ?_⟩
        refine iteF ?_
        exact ⟨_, rfl, fr27.grow (s28.trans st)⟩
      rintro σ H27 ⟨o8, rfl, fr27⟩
      -- five times
      refine ⟨5, rfl, by decide, by decide, ?_⟩
      refine for_range (n := 5) (fun j σ H' => ∃ (o7 o8 o9 o10 o11 o12 o13 o14 o15 o16 o17 : Option V) (F' : Hp), σ = [some (.ref a), some (.ref b), some (.int (0 + (i : Nat))), some (.ref p3), some (.ref p5), some (.ref g), some (.ref x), o7, o8, o9, o10, o11, o12, o13, o14, o15, o16, o17] ∧ Fz.Fr F' H' b ∧ Same F18 F')
        ⟨_, _, _, _, _, _, _, _, _, _, _, F26, rfl, fr27, s1826⟩ ?_ ?_
      · clear fr27 fr26 fr25 fr24 s1826 s1825 s1823 hks at26 tf25 s25 s26
        rintro j σ H30 hj ⟨o7, o8, o9, o10, o11, o12, o13, o14, o15, o16, o17, F30, rfl, fr30, s30⟩
        have s30h := s30.trans fr30.same
        -- door and state
        refine ⟨_, rfl, _, rfl, g, _, rfl, dg (s30h _ _ hg) (lg_doors n d c r), b, d, _, rfl, fr30.bag, s30h _ _ hd, fr30.ne (s30 _ _ hd), by simp, by rw [List.length_map]; exact Nat.lt_of_le_of_lt wf.nd.len (by decide), fun dv H31 hdv sb31 bt31 => ?_⟩
        obtain ⟨door, hdoor, rfl⟩ := mem_strs hdv
        have fr31 := fr30.took sb31 bt31
        have s31h := s30.trans fr31.same
        refine ⟨_, rfl, _, rfl, g, _, rfl, dg (s31h _ _ hg) (lg_states n d c r), b, n, rfl, fr31.bag, by omega, by omega, fun st H32 st0 stn sb32 bt32 => ⟨_, _, rfl, ?_⟩⟩
        have fr32 := fr31.took sb32 bt32
        -- the kind
        refine ⟨_, rfl, fun v33 N33 H33 n33 r33 => ?_⟩
        obtain ⟨F33, fr33, s33, t33⟩ := fr32.lit' n33
        obtain ⟨p33, x33, rfl, hp33, q33⟩ := Rep.mono t33 _ r33
        obtain rfl : x33 = (["", "?"] : List Str).map V.str := RepAll.strs (xs := ["", "?"]) q33
        have s1833 := s30.trans s33
        have s33h := s1833.trans fr33.same
        have lc16 := wf.lc
        refine ⟨_, rfl, g, _, rfl, dg (s33h _ _ hg) (lg_closet n d c r), p33, c, _, _, rfl, rfl, fr33.same _ _ hp33, s33h _ _ hC, by rw [List.length_map, List.length_map]; exact Nat.le_trans (Nat.add_le_add_left lc16 _) (by decide), fun p34 hp34 => ?_⟩
        rw [← List.map_append]
        obtain ⟨F34, fr34, s34, at34⟩ := fr33.put' (o := .lst (((["", "?"] : List Str) ++ cs).map .str)) hp34
        refine ⟨b, p34, _, rfl, fr34.bag, upd_same, fr34.ne at34, by simp, ?_, fun kv H35 hkv sb35 bt35 => ?_⟩
        · rw [List.length_map, List.length_append]
          exact Nat.lt_of_le_of_lt (Nat.add_le_add_left lc16 _) (by decide)
        obtain ⟨kind, hkind, rfl⟩ := mem_strs hkv
        have fr35 := fr34.took sb35 bt35
        have s1835 := s1833.trans s34
        have s35h := s1835.trans fr35.same
        -- the rest
        refine ⟨_, rfl, g, _, rfl, dg (s35h _ _ hg) (lg_rules n d c r), r, rfl, .inr ⟨kvs, .inl (s35h _ _ hR)⟩, _, rfl, _, rfl, _, rfl, by show 3 ≤ sizeLine; decide, fun q36 hq36 => ?_⟩
        have s36 := same_upd (o := .tup [V.str door, V.int st, V.str kind]) hq36
        refine ⟨_, .inr ⟨kvs, [.inr door, .inl st, .inr kind], q36, .inl (s36 _ _ (s35h _ _ hR)), rfl, upd_same, rfl⟩, ?_⟩
        have fr36 := fr35.grow s36
        have s36h := s35h.trans s36
        generalize upd H35 q36 (.tup [V.str door, V.int st, V.str kind]) = H36 at s36 fr36 s36h
        clear fr35 fr34 fr33 fr32 fr31 fr30
        refine ⟨fun σ' H' => ∃ o13, σ' = [some (.ref a), some (.ref b), some (.int (0 + (i : Nat))), some (.ref p3), some (.ref p5), some (.ref g), some (.ref x), o7, o8, some (.int (0 + (j : Nat))), some (.str door), some (.int st), some (.str kind), o13, o14, o15, o16, o17] ∧ Fz.Fr F34 H' b, ?_, ?_⟩
        · have key : ∀ v H', Same H36 H' → RepRule K H' v (ruleOf rs' (.str door) (.int st) (.str kind)) → RepRule K H' v (rs2.find? fun r => decide (r.key = [.inr door, .inl st, .inr kind])) := fun v H' _ h => by
            rw [rule_perm prs wf.ks] at h
            exact h
          refine ⟨_, rfl, x, dx, _, rfl, s36h _ _ h1, nlR, _, rfl, _, rfl, _, rfl, x, _, _, _, .str door, .int st, .str kind, n, us, ws, rs', rfl, ga18.mono s36h, rfl, rfl, rfl, fun v37 H37 s37 rr37 => ?_⟩
          have rr37 := key _ _ s37 rr37
          have s37h := s36h.trans s37
          have fr37 := fr36.grow s37
          rcases val_rest (lr.mono s37h) [.inr door, .inl st, .inr kind] with ⟨v38, ru, ev, ef, rv⟩ | ⟨ev, ef⟩
          · rw [ef] at rr37
            rw [ev]
            obtain ⟨pr, y3, rfl, hpr, e3⟩ := rest_of rv
            obtain ⟨hru, ek⟩ := (find_key wf.ks).mp ef
            refine ⟨_, rfl, rfl, _, rfl, ?_⟩
            refine iteF ?_
            refine ⟨_, rfl, _, rfl, _, rfl, by show 3 ≤ sizeLine; decide, fun q38 hq38 => ?_⟩
            have s38 := same_upd (o := .tup [V.str door, V.int st, V.str kind]) hq38
            refine ⟨_, rfl, q38, pr, _, _, rfl, rfl, SqT.of upd_same, SqT.of (s38 _ _ hpr), by simp, (show 3 + 3 ≤ sizeLine by decide), fun z => (by cases z), fun _ t ht => ?_⟩
            have st39 := same_upd (o := .tup ([V.str door, V.int st, V.str kind] ++ [.int ru.later, .bl ru.keeps, y3])) ht
            obtain ⟨lay, fine⟩ := rule_good wf hru
            have e39 : [V.str door, V.int st, V.str kind] = ru.key.map kV := by rw [ek]; rfl
            have at39 : (upd (upd H37 q38 (.tup [V.str door, V.int st, V.str kind])) t (.tup ([V.str door, V.int st, V.str kind] ++ [.int ru.later, .bl ru.keeps, y3]))) t = some (.tup (ru.key.map kV ++ [.int ru.later, .bl ru.keeps, y3])) := by rw [upd_same, e39]
            refine .inl ⟨v37, .ref t, ru.dat, rfl, Rep.mono (s38.trans st39) _ rr37, rep_dat at39 (Rep.mono (s38.trans st39) _ e3), lay, fine, _, rfl, ?_⟩
            refine iteF ?_
            exact ⟨_, rfl, fr37.grow (s38.trans st39)⟩
          · rw [ef] at rr37
            obtain rfl : v37 = .non := rr37
            rw [ev]
            refine ⟨_, rfl, rfl, _, rfl, ?_⟩
            refine iteT ?_
            refine .inl ⟨.non, .non, .non, rfl, rfl, rfl, rfl, fine_non.mono (by decide) (by decide), _, rfl, ?_⟩
            refine iteF ?_
            exact ⟨_, rfl, fr37⟩
        · rintro σ H40 ⟨o13, rfl, fr40⟩
          -- an odd key
          obtain ⟨F41, fr41, s41, tf41⟩ := fr_full fr40
          have s1841 := s1835.trans s41
          refine ⟨_, rfl, _, rfl, b, g, F41, n, d1 :: dr, cs, rs2, rfl, fr41, tf41, lgf18.mono s1841, wf, ne17, fun vo e1 e2 e3 F42 H42 g42 ro f1 f2 f3 => ?_⟩
          have fr42 := g42.fr
          have fo : Fine 100 sizeLine (.lst [e1, e2, e3]) := (fine_lst (k := 9) (n := 5000) (m := 3) (fun y hy => by
            simp only [List.mem_cons, List.not_mem_nil, or_false] at hy
            rcases hy with rfl | rfl | rfl <;> assumption) (Nat.le_refl _)).mono (by decide) (by decide)
          obtain ⟨po, xo, rfl, hpo, qo⟩ := id ro
          obtain ⟨w1, _, rfl, q1, w2, _, rfl, q2, w3, _, rfl, q3, rfl⟩ := qo
          refine ⟨_, rfl, .ref po, .lst [e1, e2, e3], rfl, Rep.mono fr42.same _ ro, fo, _, _, rfl, ?_⟩
          obtain ⟨F43, fr43, s43, tf43⟩ := fr_full fr42
          have s1843 := (s1841.trans g42.up).trans s43
          have s43h := s1843.trans fr43.same
          refine ⟨_, rfl, g, _, rfl, dg (s43h _ _ hg) (lg_rules n d c r), r, kvs, rfl, .inl (s43h _ _ hR), ord_kvs lr.ks, fun p44 ys2 hp44 hys2 ly2 => ?_⟩
          obtain ⟨rs3, p3', hks2⟩ := keys_sorted tf43 lr.ks hys2
          obtain ⟨F44, fr44, s44, at44⟩ := fr43.put' (o := .lst ys2) hp44
          have s1844 := s1843.trans s44
          have s4244 := s43.trans s44
          have lys2 : ys2.length = rs3.length := by rw [hks2.length, List.length_map, List.length_map]
          refine ⟨p44, rfl, ⟨_, SqL.of upd_same⟩, for_list (K := K) (a := p44) (xs := ys2) (fun m σ H' => ∃ (o8 : Option V) (vd : V), σ = [some (.ref a), some (.ref b), some (.int (0 + (i : Nat))), some (.ref p3), some (.ref p5), some (.ref g), some (.ref x), o7, o8, some (.int (0 + (j : Nat))), some (.str door), some (.int st), some (.str kind), o13, some (.ref po), some (.str (Dat.lst [e1, e2, e3]).py.shown), some vd, o17] ∧ Fz.Fr F44 H' b ∧
            RepRule K H' vd (if ((rs3.take m).any fun r => keyIs r.door r.state r.kind e1 e2 e3) = true then ruleOf rs2 e1 e2 e3 else none))
            ⟨_, _, rfl, fr44, by rw [List.take_zero]; rfl⟩ (fun m σ H' _ h => ?_) ?_ ?_⟩
          · obtain ⟨_, _, _, h, _⟩ := h
            exact SqL.of (h.same _ _ at44)
          · rintro m y σ H45 hy ⟨o8, vd, rfl, fr45, rd⟩
            obtain ⟨dy, hdy, ry⟩ := hks2.get hy
            obtain ⟨ru, hru1, rfl⟩ : ∃ ru, rs3[m]? = some ru ∧ dy = keyDat ru.key := by
              rw [List.getElem?_map, List.getElem?_map] at hdy
              cases e : rs3[m]? with
              | none => rw [e] at hdy; cases hdy
              | some ru => rw [e] at hdy; exact ⟨ru, rfl, (Option.some.inj hdy).symm⟩
            have hru := p3'.mem_iff.mp (List.mem_of_getElem? hru1)
            obtain ⟨ka, rfl, hka⟩ := key_rep ry
            have hka45 := fr45.same _ _ (s44 _ _ hka)
            have kf := key_fine wf hru
            have fk : Fine 100 sizeLine (.lst [.str ru.door, .int ru.state, .str ru.kind]) := (fine_lst (m := 3) kf (Nat.le_refl _)).mono (by decide) (by decide)
            have step : ((rs3.take (m + 1)).any fun r => keyIs r.door r.state r.kind e1 e2 e3) = (((rs3.take m).any fun r => keyIs r.door r.state r.kind e1 e2 e3) || keyIs ru.door ru.state ru.kind e1 e2 e3) := by
              rw [List.take_add_one, hru1, List.any_append]
              simp
            refine ⟨_, rfl, ka, _, rfl, .inr (SqT.of hka45), fun l45 hl45 => ⟨_, rfl, ?_⟩⟩
            have sl := same_upd (o := .lst (ru.key.map kV)) hl45
            have fr46 := fr45.grow sl
            have ro46 : Rep K (upd H45 l45 (.lst (ru.key.map kV))) (.ref po) (.lst [e1, e2, e3]) := Rep.mono (s4244.trans fr46.same) _ ro
            refine .inr ⟨.ref l45, .ref po, ru.door, ru.state, ru.kind, e1, e2, e3, rfl, ⟨l45, _, rfl, upd_same, _, _, rfl, rfl, _, _, rfl, rfl, _, _, rfl, rfl, rfl⟩, ro46, fk, fo, _, rfl, ?_⟩
            have rd46 := rd.mono sl
            have hka46 := sl _ _ hka45
            generalize upd H45 l45 (.lst (ru.key.map kV)) = H46 at fr46 rd46 hka46
            refine ite2 (fun e => ?_) (fun e => ?_)
            · have s46h := s1844.trans fr46.same
              obtain ⟨pr, y3, ev, hpr, e3'⟩ := rest_at lr wf.ks hru
              refine ⟨_, rfl, _, rfl, g, _, rfl, dg (s46h _ _ hg) (lg_rules n d c r), _, rfl, r, _, rfl, .inr ⟨kvs, ru.key, ka, .inl (s46h _ _ hR), rfl, hka46, ev.symm⟩, ka, pr, _, _, rfl, rfl, SqT.of hka46, SqT.of (s46h _ _ hpr), by simp [Rl.key], (show 3 + 3 ≤ sizeLine by decide), fun z => (by cases z), fun _ t ht => ?_⟩
              have st47 := same_upd (o := .tup (ru.key.map kV ++ [.int ru.later, .bl ru.keeps, y3])) ht
              refine ⟨_, _, rfl, fr46.grow st47, ?_⟩
              rw [step, e, Bool.or_true, if_pos rfl, rule_hit wf.ks hru e]
              exact rep_dat upd_same (Rep.mono (s46h.trans st47) _ e3')
            · refine ⟨_, rfl, _, _, rfl, fr46, ?_⟩
              rw [step, show keyIs ru.door ru.state ru.kind e1 e2 e3 = false by simpa using e, Bool.or_false]
              exact rd46
          rintro σ H48 ⟨o8, vd, rfl, fr48, rd⟩
          rw [lys2, List.take_length, any_rule p3' wf.ks] at rd
          have s48h := s1844.trans fr48.same
          have s4248 := s4244.trans fr48.same
          have hpo48 := s4248 _ _ hpo
          have a0 := atI_nat (xs := [w1, w2, w3]) (j := 0) (v := w1) rfl
          have a1 := atI_nat (xs := [w1, w2, w3]) (j := 1) (v := w2) rfl
          have a2 := atI_nat (xs := [w1, w2, w3]) (j := 2) (v := w3) rfl
          refine ⟨_, rfl, x, dx, _, rfl, s48h _ _ h1, nlR, _, rfl, po, _, 0, w1, rfl, rfl, SqL.of hpo48, a0, _, rfl, po, _, 1, w2, rfl, rfl, SqL.of hpo48, a1, _, rfl, po, _, 2, w3, rfl, rfl, SqL.of hpo48, a2,
            x, w1, w2, w3, e1, e2, e3, n, us, ws, rs', rfl, ga18.mono s48h, Rep.mono s4248 _ q1, Rep.mono s4248 _ q2, Rep.mono s4248 _ q3, fun v49 H49 s49 rr49 => ?_⟩
          rw [rule_perm prs wf.ks] at rr49
          have rd49 := rd.mono s49
          obtain ⟨dd, r1, r2, lay, fine⟩ : ∃ dd, Rep K H49 v49 dd ∧ Rep K H49 vd dd ∧ dd.py.canLay0 = true ∧ Fine 40 sizeLine dd := by
            cases e : ruleOf rs2 e1 e2 e3 with
            | none =>
              rw [e] at rr49 rd49
              exact ⟨.non, rr49, rd49, rfl, fine_non.mono (by decide) (by decide)⟩
            | some ru =>
              rw [e] at rr49 rd49
              obtain ⟨lay, fine⟩ := rule_good wf (rule_is wf.ks e).1
              exact ⟨ru.dat, rr49, rd49, lay, fine⟩
          refine ⟨_, rfl, .inl ⟨v49, vd, dd, rfl, r1, r2, lay, fine, _, rfl, ?_⟩⟩
          refine iteF ?_
          have fr49 := fr48.grow s49
          refine ⟨_, rfl, .ref po, .lst [e1, e2, e3], rfl, Rep.mono (s4248.trans s49) _ ro, fo, _, rfl, rfl, _, rfl, ?_⟩
          rw [show (decide (V.str (Dat.lst [e1, e2, e3]).py.shown = V.str (Dat.lst [e1, e2, e3]).py.shown)) = true from decide_eq_true rfl]
          refine iteF ?_
          have s1849 := s1844
          -- kept and given
          have one : ∀ (m : Int) (F50 H50 : Hp) (Qk : V → Hp → Prop), Fz.Fr F50 H50 b → Same F18 F50 →
              (∀ y H', Nm y → (∃ F', Fz.Fr F' H' b ∧ Same F18 F') → Qk (.str y) H') →
              ∀ v N H51, New H50 N H51 → Rep K N v (.lst [.str ""]) → ∃ p51 xs51, (v = .ref p51 ∧ SqL K H51 p3 (nm.map .str) ∧ H51 p51 = some (.lst [.str ""]) ∧ xs51 = cutV (nm.map V.str) none (some m)) ∧
                ∀ p52, H51 p52 = none → (∀ p53, (upd H51 p52 (.lst xs51)) p53 = none → ∃ F54, Fz.Fr F54 (upd (upd H51 p52 (.lst xs51)) p53 (.lst ([V.str ""] ++ xs51))) b ∧ Same F18 F54 ∧ F54 p53 = some (.lst ([V.str ""] ++ xs51)) ∧
                  ∀ yv ∈ ([V.str ""] ++ xs51), ∃ y, yv = .str y ∧ Nm y) ∧ (upd H51 p52 (.lst xs51)) p51 = some (.lst [.str ""]) ∧ xs51.length ≤ 16 := by
            intro m F50 H50 Qk fr50 s50 kk v N H51 n51 r51
            obtain ⟨F51, fr51, s51, t51⟩ := fr50.lit' n51
            obtain ⟨p51, x51, rfl, hp51, y1, _, rfl, z1, rfl⟩ := Rep.mono t51 _ r51
            obtain rfl : y1 = .str "" := z1
            obtain ⟨nx, ex, sx⟩ := cut_strs nm none (some m)
            have lx : nx.length ≤ 16 := by have := sx.length_le; omega
            refine ⟨p51, _, ⟨rfl, SqL.of (fr51.same _ _ ((s50.trans s51) _ _ hnm18)), fr51.same _ _ hp51, rfl⟩, fun p52 hp52 => ⟨fun p53 hp53 => ?_, ?_, ?_⟩⟩
            · obtain ⟨F52, fr52, s52, at52⟩ := fr51.put' (o := .lst (cutV (nm.map V.str) none (some m))) hp52
              obtain ⟨F53, fr53, s53, at53⟩ := fr52.put' (o := .lst ([V.str ""] ++ cutV (nm.map V.str) none (some m))) hp53
              refine ⟨F53, fr53, s50.trans (s51.trans (s52.trans s53)), at53, fun yv hyv => ?_⟩
              rcases List.mem_append.mp hyv with h | h
              · rw [List.mem_singleton] at h
                exact ⟨"", h, .inl rfl⟩
              · rw [ex] at h
                obtain ⟨y, hy, rfl⟩ := mem_strs h
                exact ⟨y, rfl, .inr (nms y (sx.subset hy))⟩
            · exact (same_upd hp52) _ _ (fr51.same _ _ hp51)
            · rw [ex, List.length_map]
              exact lx
          refine ⟨_, rfl, fun v50 N50 H50 n50 r50 => ?_⟩
          obtain ⟨p51, x51, ⟨rfl, sq51, hp51, ex51⟩, more51⟩ := one 6 F44 H49 (fun _ _ => True) fr49 s1844 (fun _ _ _ _ => trivial) v50 N50 H50 n50 r50
          refine ⟨_, rfl, 6, rfl, p3, _, rfl, sq51, fun p52 hp52 => ?_⟩
          rw [← ex51]
          obtain ⟨m51, hp51', l51⟩ := more51 p52 hp52
          refine ⟨p51, p52, _, _, rfl, rfl, hp51', upd_same, by show 1 + x51.length ≤ sizeLine; exact Nat.le_trans (Nat.add_le_add_left l51 _) (by decide), fun p53 hp53 => ?_⟩
          obtain ⟨F54, fr54, s54, at54, all54⟩ := m51 p53 hp53
          refine ⟨b, p53, _, rfl, fr54.bag, upd_same, fr54.ne at54, by simp, by rw [List.length_append]; exact Nat.lt_of_le_of_lt (Nat.add_le_add_left l51 _) (by decide), fun kv55 H55 hkv55 sb55 bt55 => ?_⟩
          obtain ⟨kept, rfl, nk⟩ := all54 kv55 hkv55
          have fr55 := fr54.took sb55 bt55
          refine ⟨_, rfl, fun v60 N60 H60 n60 r60 => ?_⟩
          obtain ⟨p61, x61, ⟨rfl, sq61, hp61, ex61⟩, more61⟩ := one 8 F54 H55 (fun _ _ => True) fr55 s54 (fun _ _ _ _ => trivial) v60 N60 H60 n60 r60
          refine ⟨_, rfl, 8, rfl, p3, _, rfl, sq61, fun p62 hp62 => ?_⟩
          rw [← ex61]
          obtain ⟨m61, hp61', l61⟩ := more61 p62 hp62
          refine ⟨p61, p62, _, _, rfl, rfl, hp61', upd_same, by show 1 + x61.length ≤ sizeLine; exact Nat.le_trans (Nat.add_le_add_left l61 _) (by decide), fun p63 hp63 => ?_⟩
          obtain ⟨F64, fr64, s64, at64, all64⟩ := m61 p63 hp63
          refine ⟨b, p63, _, rfl, fr64.bag, upd_same, fr64.ne at64, by simp, by rw [List.length_append]; exact Nat.lt_of_le_of_lt (Nat.add_le_add_left l61 _) (by decide), fun gv65 H65 hgv65 sb65 bt65 => ⟨_, _, rfl, ?_⟩⟩
          obtain ⟨given, rfl, ng⟩ := all64 gv65 hgv65
          have fr65 := fr64.took sb65 bt65
          have s65h := s64.trans fr65.same
          -- the call
          have tl' : ∀ q ∈ rs', q.told.length ≤ 1000 := fun q hq => Nat.le_trans (wf.tl q (prs.mem_iff.mp hq)) (by decide)
          have ecp : callOf rs' ws st kept door given = callOf rs2 cs st kept door given := call_perm prs pws wf.ks st kept door given
          have ecl : lcallOf rs2 cs st kept door given = callOf rs2 cs st kept door given := (call_eq wf.ok wf.nc st kept door given).symm
          obtain ⟨st', kept', names, ef, st0', stn', hk', hw', hl'⟩ := call_form wf (door := door) st0 stn nk ng
          obtain ⟨lay2, fine2⟩ := told_good wf.n64 st0' stn' hk' hw' hl'
          refine ⟨_, rfl, x, dx, _, rfl, s65h _ _ h1, nlC, _, rfl, _, rfl, _, rfl, _, rfl, x, st, kept, door, given, n, us, ws, rs', rfl, ga18.mono s65h, tl', fun v66 H66 s66 r66 _ => ?_⟩
          rw [ecp, ef] at r66
          have s66h := s65h.trans s66
          refine ⟨_, rfl, _, rfl, _, rfl, _, rfl, _, rfl, g, st, kept, door, given, n, d1 :: dr, cs, rs2, rfl, lgf18.mono s66h, wf.tl, fun v67 H67 s67 r67 => ?_⟩
          rw [ecl, ef] at r67
          refine .inl ⟨v66, v67, _, rfl, Rep.mono s67 _ r66, r67, lay2, fine2, _, rfl, ?_⟩
          refine iteF ?_
          exact ⟨_, _, _, _, _, _, _, _, _, _, _, F64, rfl, fr65.grow (s66.trans s67), s64⟩
      · rintro σ H30 ⟨o7, o8, o9, o10, o11, o12, o13, o14, o15, o16, o17, F30, rfl, fr30, s30⟩
        -- a row of calls
        refine ⟨_, rfl, _, rfl, _, rfl, _, rfl, 6, rfl, p3, _, rfl, SqL.of (fr30.same _ _ (s30 _ _ hnm18)), fun p31 hp31 => ?_⟩
        obtain ⟨n6, e6, sub6⟩ := cut_strs nm none (some 6)
        rw [e6]
        obtain ⟨F31, fr31, s31, at31⟩ := fr30.put' (o := .lst (n6.map .str)) hp31
        have s1831 := s30.trans s31
        refine ⟨b, g, x, p31, F31, n, d1 :: dr, cs, us, ws, n6, rs2, rs', rfl, fr31, lgf18.mono s1831, wf, ga18.mono s1831, pws, prs, at31, fun w hw => nms w (sub6.subset hw), by have := sub6.length_le; omega, fun F' H' g' => ⟨_, rfl, ?_⟩⟩
        refine iteF ?_
        exact ⟨_, _, _, _, _, _, _, _, _, _, _, _, _, _, _, _, F', rfl, g'.fr⟩
    · rintro σ H2 ⟨o2, o3, o4, o5, o6, o7, o8, o9, o10, o11, o12, o13, o14, o15, o16, o17, F2, rfl, fr2⟩
      exact k _
end
end K

set_option Elab.async false
set_option linter.all false
set_option maxRecDepth 100000
set_option maxHeartbeats 8000000
namespace K
open PySem PySem.Spec PyProof.Rows L2 G D L S C Sx Kx Ex Lt
open Fz hiding Fr
/-- the written part holds a def -/
def HasDef (K : PySem.W.Frag) (x : Str) (st : Stmt) : Prop := ∃ (f : Addr) (oc : Value) (od an : Option Addr) (osl : Array (Option Value)) (kV doc pm cdv ct : Value),
  PySem.W.nsIn K mainGlobals x = some (some (.ref f)) ∧ K.lookup f = some ⟨oc, od, .func (PySem.W.fnOf x x (defArgs st) (defBody st) (defScope st) .none kV doc pm an cdv ct), osl⟩ ∧
  PySem.W.codeIn K cdv x = true ∧ PySem.W.keepIn K (.ref f) = true
theorem hasDef {K : PySem.W.Frag} {x : Str} {st : Stmt} {f : Addr} {oc : Value} {od an : Option Addr} {osl : Array (Option Value)} {kV doc pm cdv ct : Value}
    (a : PySem.W.nsIn K mainGlobals x = some (some (.ref f))) (l : K.lookup f = some ⟨oc, od, .func (PySem.W.fnOf x x (defArgs st) (defBody st) (defScope st) .none kV doc pm an cdv ct), osl⟩)
    (c : PySem.W.codeIn K cdv x = true) (k : PySem.W.keepIn K (.ref f) = true) : HasDef K x st := ⟨f, oc, od, an, osl, kV, doc, pm, cdv, ct, a, l, c, k⟩
/-- a class of the written part holds a method -/
def HasMet (K : PySem.W.Frag) (C : Addr) (x q : Str) (st : Stmt) : Prop := ∃ (f : Addr) (oc : Value) (od an : Option Addr) (osl : Array (Option Value)) (kV doc pm cdv ct : Value),
  PySem.W.findIn K (.ref C) x = some (some (.ref f)) ∧ PySem.W.isFn K (.ref f) = true ∧ K.lookup f = some ⟨oc, od, .func (PySem.W.fnOf x q (defArgs st) (defBody st) (defScope st) .none kV doc pm an cdv ct), osl⟩ ∧
  PySem.W.codeIn K cdv q = true ∧ PySem.W.keepIn K (.ref f) = true
theorem hasMet {K : PySem.W.Frag} {C : Addr} {x q : Str} {st : Stmt} {f : Addr} {oc : Value} {od an : Option Addr} {osl : Array (Option Value)} {kV doc pm cdv ct : Value}
    (a : PySem.W.findIn K (.ref C) x = some (some (.ref f))) (i : PySem.W.isFn K (.ref f) = true) (l : K.lookup f = some ⟨oc, od, .func (PySem.W.fnOf x q (defArgs st) (defBody st) (defScope st) .none kV doc pm an cdv ct), osl⟩)
    (c : PySem.W.codeIn K cdv q = true) (k : PySem.W.keepIn K (.ref f) = true) : HasMet K C x q st := ⟨f, oc, od, an, osl, kV, doc, pm, cdv, ct, a, i, l, c, k⟩
theorem kit_own {K : PySem.W.Frag} {C : Addr} {T : String} (m : PySem.W.kitMeta T = true) (h : PySem.W.subIn K (.ref C) (.type T) = some false) : PySem.W.kitOne K (.ref C) (.type T) = some false := by
  unfold PySem.W.kitOne
  rw [if_neg (by simp)]
  unfold PySem.W.kitCls
  simp only
  rw [if_pos m, h]
theorem kit_of_own {K : PySem.W.Frag} {C : Addr} {T : String} (i : PySem.W.isClsIn K C = true) (t : PySem.W.typeIn K (.ref C) = some (.type "type")) (h : PySem.W.subIn K (.type T) (.ref C) = some false) :
    PySem.W.kitOne K (.type T) (.ref C) = some false := by
  unfold PySem.W.kitOne
  rw [if_neg (by simp)]
  unfold PySem.W.kitCls
  simp only
  rw [if_pos, h]
  rw [show (PySem.W.clsIn K C).isSome = true from i, t]
  rfl
theorem all_mk {P : Program} {w : World} {K : PySem.W.Frag} {h : Heap} {mg : Str → Option Value} {fa C : Addr} (X : K.In h) (G : h.Ns mainGlobals mg) (hfa : mg "law" = some (.ref fa))
    (h_is_integer : HasDef K "is_integer" s_is_integer)
    (h_is_below : HasDef K "is_below" s_is_below)
    (h_is_name : HasDef K "is_name" s_is_name)
    (h_are_names : HasDef K "are_names" s_are_names)
    (h_law_bag : HasDef K "_law_bag" s_law_bag)
    (h_law_take : HasDef K "_law_take" s_law_take)
    (h_law_one : HasDef K "_law_one" s_law_one)
    (h_law_alike : HasDef K "_law_alike" s_law_alike)
    (h_law_mixed : HasDef K "_law_mixed" s_law_mixed)
    (h_law_odd : HasDef K "_law_odd" s_law_odd)
    (h_law_rule_row : HasDef K "_law_rule_row" s_law_rule_row)
    (h_law_sorted_rules : HasDef K "_law_sorted_rules" s_law_sorted_rules)
    (h_law_drawn_rule : HasDef K "_law_drawn_rule" s_law_drawn_rule)
    (h_law_drawn_gate : HasDef K "_law_drawn_gate" s_law_drawn_gate)
    (h_law_gate : HasDef K "_law_gate" s_law_gate)
    (h_law_menu : HasDef K "_law_menu" s_law_menu)
    (h_law_kind : HasDef K "_law_kind" s_law_kind)
    (h_law_call : HasDef K "_law_call" s_law_call)
    (h_law_key_odd : HasDef K "_law_key_odd" s_law_key_odd)
    (h_law_row_right : HasDef K "_law_row_right" s_law_row_right)
    (h_law : HasDef K "law" s_law)
    (aC : PySem.W.nsIn K mainGlobals "Gate" = some (some (.ref C)))
    (hm_init__ : HasMet K C "__init__" "Gate.__init__" s_Gate___init__)
    (hm_is_rule : HasMet K C "_is_rule" "Gate._is_rule" s_Gate__is_rule)
    (hm_kind_of : HasMet K C "kind_of" "Gate.kind_of" s_Gate_kind_of)
    (hm_rule_for : HasMet K C "rule_for" "Gate.rule_for" s_Gate_rule_for)
    (hm_call : HasMet K C "call" "Gate.call" s_Gate_call)
    (mk : PySem.W.makesIn K C = true) (kc : PySem.W.keepIn K (.ref C) = true)
    (oC : OwnC K C)
    (n1 : PySem.W.findIn K (.ref C) "_states" = some none)
    (n2 : PySem.W.findIn K (.ref C) "_doors" = some none)
    (n3 : PySem.W.findIn K (.ref C) "_closet" = some none)
    (n4 : PySem.W.findIn K (.ref C) "_rules" = some none)
    (z_len : PySem.W.nsIn K mainGlobals "len" = some none)
    (z_isinstance : PySem.W.nsIn K mainGlobals "isinstance" = some none)
    (z_int : PySem.W.nsIn K mainGlobals "int" = some none)
    (z_str : PySem.W.nsIn K mainGlobals "str" = some none)
    (z_bool : PySem.W.nsIn K mainGlobals "bool" = some none)
    (z_list : PySem.W.nsIn K mainGlobals "list" = some none)
    (z_tuple : PySem.W.nsIn K mainGlobals "tuple" = some none)
    (z_dict : PySem.W.nsIn K mainGlobals "dict" = some none)
    (z_set : PySem.W.nsIn K mainGlobals "set" = some none)
    (z_abs : PySem.W.nsIn K mainGlobals "abs" = some none)
    (z_repr : PySem.W.nsIn K mainGlobals "repr" = some none)
    (z_sorted : PySem.W.nsIn K mainGlobals "sorted" = some none)
    (z_all : PySem.W.nsIn K mainGlobals "all" = some none)
    (z_range : PySem.W.nsIn K mainGlobals "range" = some none)
    (z_zip : PySem.W.nsIn K mainGlobals "zip" = some none)
    (z_enumerate : PySem.W.nsIn K mainGlobals "enumerate" = some none)
    (z_min : PySem.W.nsIn K mainGlobals "min" = some none)
    : ∃ fd : FuncData, (∀ (s : Shared) (v : Value), BindsTo s fd ⟨[v], []⟩ [("script", v)]) ∧ ∀ base : Heap, K.In base → base.Ns mainGlobals mg → HasMods base → Fn P w K mg base CX0 8 fa fd ["script"] (spLaw K) := by
  have T : Bl mg := ⟨PySem.W.mg_none_of X G z_len, PySem.W.mg_none_of X G z_isinstance, PySem.W.mg_none_of X G z_int, PySem.W.mg_none_of X G z_str, PySem.W.mg_none_of X G z_bool, PySem.W.mg_none_of X G z_list, PySem.W.mg_none_of X G z_tuple, PySem.W.mg_none_of X G z_dict, PySem.W.mg_none_of X G z_set, PySem.W.mg_none_of X G z_abs, PySem.W.mg_none_of X G z_repr, PySem.W.mg_none_of X G z_sorted, PySem.W.mg_none_of X G z_all, PySem.W.mg_none_of X G z_range, PySem.W.mg_none_of X G z_zip, PySem.W.mg_none_of X G z_enumerate, PySem.W.mg_none_of X G z_min⟩
  have hG := PySem.W.mg_of X G aC
  obtain ⟨f_is_integer, _, _, _, _, _, _, _, _, _, a_is_integer, l_is_integer, c_is_integer, k_is_integer⟩ := h_is_integer
  have F_is_integer := fun_mk (st := s_is_integer) l_is_integer c_is_integer k_is_integer
  have b_is_integer := F_is_integer.binds (ps := ["thing"]) fun _ _ _ _ _ _ us hl => match us, hl with | [_], _ => rfl
  have m_is_integer := PySem.W.mg_of X G a_is_integer
  obtain ⟨f_is_below, _, _, _, _, _, _, _, _, _, a_is_below, l_is_below, c_is_below, k_is_below⟩ := h_is_below
  have F_is_below := fun_mk (st := s_is_below) l_is_below c_is_below k_is_below
  have b_is_below := F_is_below.binds (ps := ["thing", "many"]) fun _ _ _ _ _ _ us hl => match us, hl with | [_, _], _ => rfl
  have m_is_below := PySem.W.mg_of X G a_is_below
  obtain ⟨f_is_name, _, _, _, _, _, _, _, _, _, a_is_name, l_is_name, c_is_name, k_is_name⟩ := h_is_name
  have F_is_name := fun_mk (st := s_is_name) l_is_name c_is_name k_is_name
  have b_is_name := F_is_name.binds (ps := ["thing"]) fun _ _ _ _ _ _ us hl => match us, hl with | [_], _ => rfl
  have m_is_name := PySem.W.mg_of X G a_is_name
  obtain ⟨f_are_names, _, _, _, _, _, _, _, _, _, a_are_names, l_are_names, c_are_names, k_are_names⟩ := h_are_names
  have F_are_names := fun_mk (st := s_are_names) l_are_names c_are_names k_are_names
  have b_are_names := F_are_names.binds (ps := ["thing"]) fun _ _ _ _ _ _ us hl => match us, hl with | [_], _ => rfl
  have m_are_names := PySem.W.mg_of X G a_are_names
  obtain ⟨f_law_bag, _, _, _, _, _, _, _, _, _, a_law_bag, l_law_bag, c_law_bag, k_law_bag⟩ := h_law_bag
  have F_law_bag := fun_mk (st := s_law_bag) l_law_bag c_law_bag k_law_bag
  have b_law_bag := F_law_bag.binds (ps := ["script"]) fun _ _ _ _ _ _ us hl => match us, hl with | [_], _ => rfl
  have m_law_bag := PySem.W.mg_of X G a_law_bag
  obtain ⟨f_law_take, _, _, _, _, _, _, _, _, _, a_law_take, l_law_take, c_law_take, k_law_take⟩ := h_law_take
  have F_law_take := fun_mk (st := s_law_take) l_law_take c_law_take k_law_take
  have b_law_take := F_law_take.binds (ps := ["bag", "many"]) fun _ _ _ _ _ _ us hl => match us, hl with | [_, _], _ => rfl
  have m_law_take := PySem.W.mg_of X G a_law_take
  obtain ⟨f_law_one, _, _, _, _, _, _, _, _, _, a_law_one, l_law_one, c_law_one, k_law_one⟩ := h_law_one
  have F_law_one := fun_mk (st := s_law_one) l_law_one c_law_one k_law_one
  have b_law_one := F_law_one.binds (ps := ["bag", "things"]) fun _ _ _ _ _ _ us hl => match us, hl with | [_, _], _ => rfl
  have m_law_one := PySem.W.mg_of X G a_law_one
  obtain ⟨f_law_alike, _, _, _, _, _, _, _, _, _, a_law_alike, l_law_alike, c_law_alike, k_law_alike⟩ := h_law_alike
  have F_law_alike := fun_mk (st := s_law_alike) l_law_alike c_law_alike k_law_alike
  have b_law_alike := F_law_alike.binds (ps := ["found", "due"]) fun _ _ _ _ _ _ us hl => match us, hl with | [_, _], _ => rfl
  have m_law_alike := PySem.W.mg_of X G a_law_alike
  obtain ⟨f_law_mixed, _, _, _, _, _, _, _, _, _, a_law_mixed, l_law_mixed, c_law_mixed, k_law_mixed⟩ := h_law_mixed
  have F_law_mixed := fun_mk (st := s_law_mixed) l_law_mixed c_law_mixed k_law_mixed
  have b_law_mixed := F_law_mixed.binds (ps := ["bag", "things"]) fun _ _ _ _ _ _ us hl => match us, hl with | [_, _], _ => rfl
  have m_law_mixed := PySem.W.mg_of X G a_law_mixed
  obtain ⟨f_law_odd, _, _, _, _, _, _, _, _, _, a_law_odd, l_law_odd, c_law_odd, k_law_odd⟩ := h_law_odd
  have F_law_odd := fun_mk (st := s_law_odd) l_law_odd c_law_odd k_law_odd
  have b_law_odd := F_law_odd.binds (ps := ["bag"]) fun _ _ _ _ _ _ us hl => match us, hl with | [_], _ => rfl
  have m_law_odd := PySem.W.mg_of X G a_law_odd
  obtain ⟨f_law_rule_row, _, _, _, _, _, _, _, _, _, a_law_rule_row, l_law_rule_row, c_law_rule_row, k_law_rule_row⟩ := h_law_rule_row
  have F_law_rule_row := fun_mk (st := s_law_rule_row) l_law_rule_row c_law_rule_row k_law_rule_row
  have b_law_rule_row := F_law_rule_row.binds (ps := ["key", "rest"]) fun _ _ _ _ _ _ us hl => match us, hl with | [_, _], _ => rfl
  have m_law_rule_row := PySem.W.mg_of X G a_law_rule_row
  obtain ⟨f_law_sorted_rules, _, _, _, _, _, _, _, _, _, a_law_sorted_rules, l_law_sorted_rules, c_law_sorted_rules, k_law_sorted_rules⟩ := h_law_sorted_rules
  have F_law_sorted_rules := fun_mk (st := s_law_sorted_rules) l_law_sorted_rules c_law_sorted_rules k_law_sorted_rules
  have b_law_sorted_rules := F_law_sorted_rules.binds (ps := ["gate"]) fun _ _ _ _ _ _ us hl => match us, hl with | [_], _ => rfl
  have m_law_sorted_rules := PySem.W.mg_of X G a_law_sorted_rules
  obtain ⟨f_law_drawn_rule, _, _, _, _, _, _, _, _, _, a_law_drawn_rule, l_law_drawn_rule, c_law_drawn_rule, k_law_drawn_rule⟩ := h_law_drawn_rule
  have F_law_drawn_rule := fun_mk (st := s_law_drawn_rule) l_law_drawn_rule c_law_drawn_rule k_law_drawn_rule
  have b_law_drawn_rule := F_law_drawn_rule.binds (ps := ["bag", "gate", "can_keep"]) fun _ _ _ _ _ _ us hl => match us, hl with | [_, _, _], _ => rfl
  have m_law_drawn_rule := PySem.W.mg_of X G a_law_drawn_rule
  obtain ⟨f_law_drawn_gate, _, _, _, _, _, _, _, _, _, a_law_drawn_gate, l_law_drawn_gate, c_law_drawn_gate, k_law_drawn_gate⟩ := h_law_drawn_gate
  have F_law_drawn_gate := fun_mk (st := s_law_drawn_gate) l_law_drawn_gate c_law_drawn_gate k_law_drawn_gate
  have b_law_drawn_gate := F_law_drawn_gate.binds (ps := ["bag", "states", "doors", "closet", "can_keep"]) fun _ _ _ _ _ _ us hl => match us, hl with | [_, _, _, _, _], _ => rfl
  have m_law_drawn_gate := PySem.W.mg_of X G a_law_drawn_gate
  obtain ⟨f_law_gate, _, _, _, _, _, _, _, _, _, a_law_gate, l_law_gate, c_law_gate, k_law_gate⟩ := h_law_gate
  have F_law_gate := fun_mk (st := s_law_gate) l_law_gate c_law_gate k_law_gate
  have b_law_gate := F_law_gate.binds (ps := ["bag", "gate"]) fun _ _ _ _ _ _ us hl => match us, hl with | [_, _], _ => rfl
  have m_law_gate := PySem.W.mg_of X G a_law_gate
  obtain ⟨f_law_menu, _, _, _, _, _, _, _, _, _, a_law_menu, l_law_menu, c_law_menu, k_law_menu⟩ := h_law_menu
  have F_law_menu := fun_mk (st := s_law_menu) l_law_menu c_law_menu k_law_menu
  have b_law_menu := F_law_menu.binds (ps := ["bag"]) fun _ _ _ _ _ _ us hl => match us, hl with | [_], _ => rfl
  have m_law_menu := PySem.W.mg_of X G a_law_menu
  obtain ⟨f_law_kind, _, _, _, _, _, _, _, _, _, a_law_kind, l_law_kind, c_law_kind, k_law_kind⟩ := h_law_kind
  have F_law_kind := fun_mk (st := s_law_kind) l_law_kind c_law_kind k_law_kind
  have b_law_kind := F_law_kind.binds (ps := ["gate", "given"]) fun _ _ _ _ _ _ us hl => match us, hl with | [_, _], _ => rfl
  have m_law_kind := PySem.W.mg_of X G a_law_kind
  obtain ⟨f_law_call, _, _, _, _, _, _, _, _, _, a_law_call, l_law_call, c_law_call, k_law_call⟩ := h_law_call
  have F_law_call := fun_mk (st := s_law_call) l_law_call c_law_call k_law_call
  have b_law_call := F_law_call.binds (ps := ["gate", "state", "kept", "door", "given"]) fun _ _ _ _ _ _ us hl => match us, hl with | [_, _, _, _, _], _ => rfl
  have m_law_call := PySem.W.mg_of X G a_law_call
  obtain ⟨f_law_key_odd, _, _, _, _, _, _, _, _, _, a_law_key_odd, l_law_key_odd, c_law_key_odd, k_law_key_odd⟩ := h_law_key_odd
  have F_law_key_odd := fun_mk (st := s_law_key_odd) l_law_key_odd c_law_key_odd k_law_key_odd
  have b_law_key_odd := F_law_key_odd.binds (ps := ["bag", "gate"]) fun _ _ _ _ _ _ us hl => match us, hl with | [_, _], _ => rfl
  have m_law_key_odd := PySem.W.mg_of X G a_law_key_odd
  obtain ⟨f_law_row_right, _, _, _, _, _, _, _, _, _, a_law_row_right, l_law_row_right, c_law_row_right, k_law_row_right⟩ := h_law_row_right
  have F_law_row_right := fun_mk (st := s_law_row_right) l_law_row_right c_law_row_right k_law_row_right
  have b_law_row_right := F_law_row_right.binds (ps := ["bag", "gate", "found", "names"]) fun _ _ _ _ _ _ us hl => match us, hl with | [_, _, _, _], _ => rfl
  have m_law_row_right := PySem.W.mg_of X G a_law_row_right
  obtain ⟨fm_init__, _, _, _, _, _, _, _, _, _, am_init__, im_init__, lm_init__, cm_init__, km_init__⟩ := hm_init__
  have Fm_init__ := fun_mk (st := s_Gate___init__) lm_init__ cm_init__ km_init__
  have bm_init__ := Fm_init__.binds (ps := ["self", "states", "doors", "closet", "rules"]) fun _ _ _ _ _ _ us hl => match us, hl with | [_, _, _, _, _], _ => rfl
  have M_init__ : Meth K C "__init__" fm_init__ := ⟨am_init__, im_init__, km_init__⟩
  obtain ⟨fm_is_rule, _, _, _, _, _, _, _, _, _, am_is_rule, im_is_rule, lm_is_rule, cm_is_rule, km_is_rule⟩ := hm_is_rule
  have Fm_is_rule := fun_mk (st := s_Gate__is_rule) lm_is_rule cm_is_rule km_is_rule
  have bm_is_rule := Fm_is_rule.binds (ps := ["self", "thing"]) fun _ _ _ _ _ _ us hl => match us, hl with | [_, _], _ => rfl
  have M_is_rule : Meth K C "_is_rule" fm_is_rule := ⟨am_is_rule, im_is_rule, km_is_rule⟩
  obtain ⟨fm_kind_of, _, _, _, _, _, _, _, _, _, am_kind_of, im_kind_of, lm_kind_of, cm_kind_of, km_kind_of⟩ := hm_kind_of
  have Fm_kind_of := fun_mk (st := s_Gate_kind_of) lm_kind_of cm_kind_of km_kind_of
  have bm_kind_of := Fm_kind_of.binds (ps := ["self", "given"]) fun _ _ _ _ _ _ us hl => match us, hl with | [_, _], _ => rfl
  have M_kind_of : Meth K C "kind_of" fm_kind_of := ⟨am_kind_of, im_kind_of, km_kind_of⟩
  obtain ⟨fm_rule_for, _, _, _, _, _, _, _, _, _, am_rule_for, im_rule_for, lm_rule_for, cm_rule_for, km_rule_for⟩ := hm_rule_for
  have Fm_rule_for := fun_mk (st := s_Gate_rule_for) lm_rule_for cm_rule_for km_rule_for
  have bm_rule_for := Fm_rule_for.binds (ps := ["self", "door", "state", "kind"]) fun _ _ _ _ _ _ us hl => match us, hl with | [_, _, _, _], _ => rfl
  have M_rule_for : Meth K C "rule_for" fm_rule_for := ⟨am_rule_for, im_rule_for, km_rule_for⟩
  obtain ⟨fm_call, _, _, _, _, _, _, _, _, _, am_call, im_call, lm_call, cm_call, km_call⟩ := hm_call
  have Fm_call := fun_mk (st := s_Gate_call) lm_call cm_call km_call
  have bm_call := Fm_call.binds (ps := ["self", "state", "kept", "door", "given"]) fun _ _ _ _ _ _ us hl => match us, hl with | [_, _, _, _, _], _ => rfl
  have M_call : Meth K C "call" fm_call := ⟨am_call, im_call, km_call⟩
  have gc : GCls K C := ⟨oC.cl, n1, n2, n3, n4⟩
  obtain ⟨f_law, oc0, od0, an0, osl0, kV0, doc0, pm0, cdv0, ct0, a_law, l_law, c_law, k_law⟩ := h_law
  have e := hfa.symm.trans (PySem.W.mg_of X G a_law)
  cases e
  refine ⟨PySem.W.fnOf "law" "law" (defArgs s_law) (defBody s_law) (defScope s_law) .none kV0 doc0 pm0 an0 cdv0 ct0, fun s v => .of_eq rfl, fun base hK hN hM => ?_⟩
  have MG : Mk K C fm_init__ := ⟨mk, am_init__, im_init__, kc⟩
  have D_is_integer : Def P w K mg base 2 "is_integer" ["thing"] (spB K (fun _ => True) isWhole) := ⟨f_is_integer, _, ok_is_integer F_is_integer T, b_is_integer, m_is_integer, k_is_integer⟩
  have D_is_below : Def P w K mg base 3 "is_below" ["thing", "many"] (spBelow) := ⟨f_is_below, _, ok_below F_is_below T D_is_integer, b_is_below, m_is_below, k_is_below⟩
  have D_is_name : Def P w K mg base 2 "is_name" ["thing"] (spB K Wd isName) := ⟨f_is_name, _, ok_is_name F_is_name T, b_is_name, m_is_name, k_is_name⟩
  have D_are_names : Def P w K mg base 3 "are_names" ["thing"] (spB K (fun d => Wd d ∧ ∀ ds, d = .lst ds ∨ d = .tup ds → ds.length < 4000) areNames) := ⟨f_are_names, _, ok_are_names F_are_names T D_is_name, b_are_names, m_are_names, k_are_names⟩
  have G_is_rule : Fn P w K mg base CX0 4 fm_is_rule _ ["self", "thing"] (spIsRule K C) := ok_is_rule Fm_is_rule T gc D_is_below
  have G_init__ : Fn P w K mg base CX0 5 fm_init__ _ ["self", "states", "doors", "closet", "rules"] (spInit K C) := ok_init Fm_init__ T gc D_is_integer D_are_names M_is_rule G_is_rule bm_is_rule
  have G_kind_of : Fn P w K mg base CX0 1 fm_kind_of _ ["self", "given"] (spKind K C) := ok_kind_of Fm_kind_of T gc
  have G_rule_for : Fn P w K mg base CX0 3 fm_rule_for _ ["self", "door", "state", "kind"] (spRuleFor K C) := ok_rule_for Fm_rule_for T gc D_is_integer
  have G_call : Fn P w K mg base CX0 4 fm_call _ ["self", "state", "kept", "door", "given"] (spCall K C) := ok_call Fm_call T gc M_kind_of G_kind_of bm_kind_of M_rule_for G_rule_for bm_rule_for
  have D_law_bag : Def P w K mg base 2 "_law_bag" ["script"] (spBag K) := ⟨f_law_bag, _, ok_bag F_law_bag T, b_law_bag, m_law_bag, k_law_bag⟩
  have D_law_take : Def P w K mg base 2 "_law_take" ["bag", "many"] (spTake) := ⟨f_law_take, _, ok_take F_law_take T, b_law_take, m_law_take, k_law_take⟩
  have D_law_one : Def P w K mg base 3 "_law_one" ["bag", "things"] (spOne) := ⟨f_law_one, _, ok_one F_law_one T D_law_take, b_law_one, m_law_one, k_law_one⟩
  have D_law_alike : Def P w K mg base 2 "_law_alike" ["found", "due"] (spAlike2 K) := ⟨f_law_alike, _, ok_alike2 F_law_alike T hM, b_law_alike, m_law_alike, k_law_alike⟩
  have D_law_mixed : Def P w K mg base 3 "_law_mixed" ["bag", "things"] (spMixed K) := ⟨f_law_mixed, _, ok_mixed F_law_mixed T D_law_take, b_law_mixed, m_law_mixed, k_law_mixed⟩
  have D_law_odd : Def P w K mg base 4 "_law_odd" ["bag"] (spDraw K Gd) := ⟨f_law_odd, _, ok_odd F_law_odd T D_law_take D_law_one, b_law_odd, m_law_odd, k_law_odd⟩
  have D_law_rule_row : Def P w K mg base 1 "_law_rule_row" ["key", "rest"] (spRow K) := ⟨f_law_rule_row, _, ok_rule_row F_law_rule_row , b_law_rule_row, m_law_rule_row, k_law_rule_row⟩
  have D_law_sorted_rules : Def P w K mg base 2 "_law_sorted_rules" ["gate"] (spSortedRules K) := ⟨f_law_sorted_rules, _, ok_sorted_rules F_law_sorted_rules T D_law_rule_row, b_law_sorted_rules, m_law_sorted_rules, k_law_sorted_rules⟩
  have D_law_drawn_rule : Def P w K mg base 4 "_law_drawn_rule" ["bag", "gate", "can_keep"] (spDrawnRule K) := ⟨f_law_drawn_rule, _, ok_drawn_rule F_law_drawn_rule T D_law_take D_law_one, b_law_drawn_rule, m_law_drawn_rule, k_law_drawn_rule⟩
  have D_law_drawn_gate : Def P w K mg base 5 "_law_drawn_gate" ["bag", "states", "doors", "closet", "can_keep"] (spDrawnGate K) := ⟨f_law_drawn_gate, _, ok_drawn_gate F_law_drawn_gate T D_law_take D_law_drawn_rule, b_law_drawn_gate, m_law_drawn_gate, k_law_drawn_gate⟩
  have D_law_gate : Def P w K mg base 7 "_law_gate" ["bag", "gate"] (spLawGate K C) := ⟨f_law_gate, _, ok_law_gate F_law_gate T hG MG G_init__ bm_init__ D_law_take D_law_mixed D_law_sorted_rules, b_law_gate, m_law_gate, k_law_gate⟩
  have D_law_menu : Def P w K mg base 4 "_law_menu" ["bag"] (spDraw K (Gnames 16)) := ⟨f_law_menu, _, ok_menu F_law_menu T D_law_mixed, b_law_menu, m_law_menu, k_law_menu⟩
  have D_law_kind : Def P w K mg base 1 "_law_kind" ["gate", "given"] (spLKind) := ⟨f_law_kind, _, ok_law_kind F_law_kind , b_law_kind, m_law_kind, k_law_kind⟩
  have D_law_call : Def P w K mg base 2 "_law_call" ["gate", "state", "kept", "door", "given"] (spLCall K) := ⟨f_law_call, _, ok_law_call F_law_call T D_law_kind, b_law_call, m_law_call, k_law_call⟩
  have D_law_key_odd : Def P w K mg base 5 "_law_key_odd" ["bag", "gate"] (spKeyOdd K) := ⟨f_law_key_odd, _, ok_key_odd F_law_key_odd T D_law_take D_law_one D_law_odd, b_law_key_odd, m_law_key_odd, k_law_key_odd⟩
  have D_law_row_right : Def P w K mg base 5 "_law_row_right" ["bag", "gate", "found", "names"] (spRowRight K C) := ⟨f_law_row_right, _, ok_row_right F_law_row_right T gc D_law_one D_law_alike D_law_call M_call G_call bm_call, b_law_row_right, m_law_row_right, k_law_row_right⟩
  exact ok_law (fun_mk (st := s_law) l_law c_law k_law) T hM gc oC M_kind_of G_kind_of bm_kind_of M_rule_for G_rule_for bm_rule_for M_call G_call bm_call D_law_bag D_law_take D_law_one D_law_alike D_law_menu D_law_drawn_gate D_law_gate D_law_kind D_law_call D_law_key_odd D_law_row_right
end K

set_option Elab.async false
set_option linter.all false
open PySem PySem.W PyProof.Rows in
set_option maxRecDepth 100000 in
set_option maxHeartbeats 0 in
theorem PySem.Challenge.cw_letinside_k13_calls_by_rules_holds : PySem.Challenge.rw_letinside_k13_calls_by_rules.Holds := by
  w_on; o_law; k_head; (case hw => w_witness2)
  k_fill
  refine G.walk_by (l := PySem.Challenge.rw_letinside_k13_calls_by_rules) (n := 63) (k := 8) (x := "script") (sp := fun F => _root_.K.spLaw F) rfl (by decide) rfl ⟨rfl, by decide, by decide⟩ (by rfl) (fun w h Y => PySem.W.kIn_of Y) ?F (fun _ H a ns hl hO hS => ⟨a, ns, rfl, hS, hl, fun _ => rfl⟩)
  case F =>
    intro w mg fa h KX G hmg
    refine' _root_.K.all_mk KX G hmg ?d_is_integer ?d_is_below ?d_is_name ?d_are_names ?d_law_bag ?d_law_take ?d_law_one ?d_law_alike ?d_law_mixed ?d_law_odd ?d_law_rule_row ?d_law_sorted_rules ?d_law_drawn_rule ?d_law_drawn_gate ?d_law_gate ?d_law_menu ?d_law_kind ?d_law_call ?d_law_key_odd ?d_law_row_right ?law ?aC ?e_init__ ?e_is_rule ?e_kind_of ?e_rule_for ?e_call ?mk ?kc ?oC  ?n1 ?n2 ?n3 ?n4 ?z_len ?z_isinstance ?z_int ?z_str ?z_bool ?z_list ?z_tuple ?z_dict ?z_set ?z_abs ?z_repr ?z_sorted ?z_all ?z_range ?z_zip ?z_enumerate ?z_min
    (case d_is_integer => (refine' _root_.K.hasDef ?a ?l ?c ?k; (case a => k_is); (case l => k_is); (case c => k_is); (case k => k_is)))
    (case d_is_below => (refine' _root_.K.hasDef ?a ?l ?c ?k; (case a => k_is); (case l => k_is); (case c => k_is); (case k => k_is)))
    (case d_is_name => (refine' _root_.K.hasDef ?a ?l ?c ?k; (case a => k_is); (case l => k_is); (case c => k_is); (case k => k_is)))
    (case d_are_names => (refine' _root_.K.hasDef ?a ?l ?c ?k; (case a => k_is); (case l => k_is); (case c => k_is); (case k => k_is)))
    (case d_law_bag => (refine' _root_.K.hasDef ?a ?l ?c ?k; (case a => k_is); (case l => k_is); (case c => k_is); (case k => k_is)))
    (case d_law_take => (refine' _root_.K.hasDef ?a ?l ?c ?k; (case a => k_is); (case l => k_is); (case c => k_is); (case k => k_is)))
    (case d_law_one => (refine' _root_.K.hasDef ?a ?l ?c ?k; (case a => k_is); (case l => k_is); (case c => k_is); (case k => k_is)))
    (case d_law_alike => (refine' _root_.K.hasDef ?a ?l ?c ?k; (case a => k_is); (case l => k_is); (case c => k_is); (case k => k_is)))
    (case d_law_mixed => (refine' _root_.K.hasDef ?a ?l ?c ?k; (case a => k_is); (case l => k_is); (case c => k_is); (case k => k_is)))
    (case d_law_odd => (refine' _root_.K.hasDef ?a ?l ?c ?k; (case a => k_is); (case l => k_is); (case c => k_is); (case k => k_is)))
    (case d_law_rule_row => (refine' _root_.K.hasDef ?a ?l ?c ?k; (case a => k_is); (case l => k_is); (case c => k_is); (case k => k_is)))
    (case d_law_sorted_rules => (refine' _root_.K.hasDef ?a ?l ?c ?k; (case a => k_is); (case l => k_is); (case c => k_is); (case k => k_is)))
    (case d_law_drawn_rule => (refine' _root_.K.hasDef ?a ?l ?c ?k; (case a => k_is); (case l => k_is); (case c => k_is); (case k => k_is)))
    (case d_law_drawn_gate => (refine' _root_.K.hasDef ?a ?l ?c ?k; (case a => k_is); (case l => k_is); (case c => k_is); (case k => k_is)))
    (case d_law_gate => (refine' _root_.K.hasDef ?a ?l ?c ?k; (case a => k_is); (case l => k_is); (case c => k_is); (case k => k_is)))
    (case d_law_menu => (refine' _root_.K.hasDef ?a ?l ?c ?k; (case a => k_is); (case l => k_is); (case c => k_is); (case k => k_is)))
    (case d_law_kind => (refine' _root_.K.hasDef ?a ?l ?c ?k; (case a => k_is); (case l => k_is); (case c => k_is); (case k => k_is)))
    (case d_law_call => (refine' _root_.K.hasDef ?a ?l ?c ?k; (case a => k_is); (case l => k_is); (case c => k_is); (case k => k_is)))
    (case d_law_key_odd => (refine' _root_.K.hasDef ?a ?l ?c ?k; (case a => k_is); (case l => k_is); (case c => k_is); (case k => k_is)))
    (case d_law_row_right => (refine' _root_.K.hasDef ?a ?l ?c ?k; (case a => k_is); (case l => k_is); (case c => k_is); (case k => k_is)))
    (case law => (refine' _root_.K.hasDef ?a ?l ?c ?k; (case a => k_is); (case l => k_is); (case c => k_is); (case k => k_is)))
    (case aC => k_is)
    (case e_init__ => (refine' _root_.K.hasMet ?a ?i ?l ?c ?k; (case a => k_is); (case i => k_is); (case l => k_is); (case c => k_is); (case k => k_is)))
    (case e_is_rule => (refine' _root_.K.hasMet ?a ?i ?l ?c ?k; (case a => k_is); (case i => k_is); (case l => k_is); (case c => k_is); (case k => k_is)))
    (case e_kind_of => (refine' _root_.K.hasMet ?a ?i ?l ?c ?k; (case a => k_is); (case i => k_is); (case l => k_is); (case c => k_is); (case k => k_is)))
    (case e_rule_for => (refine' _root_.K.hasMet ?a ?i ?l ?c ?k; (case a => k_is); (case i => k_is); (case l => k_is); (case c => k_is); (case k => k_is)))
    (case e_call => (refine' _root_.K.hasMet ?a ?i ?l ?c ?k; (case a => k_is); (case i => k_is); (case l => k_is); (case c => k_is); (case k => k_is)))
    (case mk => k_is)
    (case kc => k_is)
    (case oC => (refine' ⟨⟨?_, ?_, ?_, ?_⟩, ?_, ?_, ?_, ?_, _root_.K.kit_own (by decide +kernel) ?_, _root_.K.kit_own (by decide +kernel) ?_, _root_.K.kit_own (by decide +kernel) ?_, _root_.K.kit_own (by decide +kernel) ?_, _root_.K.kit_own (by decide +kernel) ?_, _root_.K.kit_own (by decide +kernel) ?_⟩ <;> k_is))
    (case n1 => k_is)
    (case n2 => k_is)
    (case n3 => k_is)
    (case n4 => k_is)
    (case z_len => k_is)
    (case z_isinstance => k_is)
    (case z_int => k_is)
    (case z_str => k_is)
    (case z_bool => k_is)
    (case z_list => k_is)
    (case z_tuple => k_is)
    (case z_dict => k_is)
    (case z_set => k_is)
    (case z_abs => k_is)
    (case z_repr => k_is)
    (case z_sorted => k_is)
    (case z_all => k_is)
    (case z_range => k_is)
    (case z_zip => k_is)
    (case z_enumerate => k_is)
    (case z_min => k_is)

