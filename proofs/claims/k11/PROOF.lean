import PyProof.Rows.All
import Wide.All
import OpenK.AllK
import Wide.FinOn
import HandS.ForMost
import HandS.IsInst
import HandS.DeepEq
import PyProof.ReprLen
import HandS.Style
import HandS.Flow
import HandS.TupLe
import HandS.Strs
import HandS.Zip
import HandS.Codes
import KE.SortData
import KE.DataCmp
import HandS.Walk
import PySem.Challenge.RW_letinside_k11_kinds_of_any_value
set_option Elab.async false
set_option linter.all false
set_option maxRecDepth 100000
set_option maxHeartbeats 4000000
/-! Calls that know that no repr runs around them (guards), so that repr of data may be asked within. -/
namespace G
open PySem PySem.Spec PyProof.Rows L2

/-- no repr is under way -/
abbrev Calm (A : Around) : Prop := A.guards = some []

/-- a promise of a def, for callers that no repr has called -/
structure Fn (P : Program) (w : World) (K : PySem.W.Frag) (mg : Str → Option Value)
    (base : Heap) (CX : CXT) (k : Nat) (f : Addr) (fd : FuncData) (ps : List Str) (sp : Sp) : Prop where
  len : ∀ vs H Q E, sp vs H Q E → vs.length = ps.length
  go : ∀ A outer s H args us vs Q E, Calm A → Room k A →
    Env0 P w K mg base A outer s H → BindsTo s fd args (ps.zip us) → Vals vs us →
    sp vs H Q E →
    codeAny (model P w) A (.call (.ref f) args) (CR CX outer P w H s Q E) s

section
variable {P : Program} {w : World} {K : PySem.W.Frag} {mg : Str → Option Value}
  {base : Heap} {CX : CXT} {k j : Nat} {f : Addr} {fd : FuncData} {ps : List Str} {sp : Sp}
theorem Fn.up (F : Fn P w K mg base CX j f fd ps sp) (h : j ≤ k) :
    Fn P w K mg base CX k f fd ps sp :=
  ⟨F.len, fun A o s H a us vs Q E c r => F.go A o s H a us vs Q E c (r.mono h)⟩
theorem Fn.weak {sp' : Sp} (F : Fn P w K mg base CX k f fd ps sp)
    (h : ∀ vs H Q E, sp' vs H Q E → sp vs H Q E) : Fn P w K mg base CX k f fd ps sp' :=
  ⟨fun vs H Q E q => F.len vs H Q E (h _ _ _ _ q),
   fun A o s H a us vs Q E c r e b v q => F.go A o s H a us vs Q E c r e b v (h _ _ _ _ q)⟩
theorem Fn.ofOk (F : FnOk P w K mg base CX k f fd ps sp) : Fn P w K mg base CX k f fd ps sp :=
  ⟨F.len, fun A o s H a us vs Q E _ r e b v q => F.run A o s H a us vs Q E r e b v q⟩
end

section
variable {X : Cx} {CX : CXT} {k : Nat} {f C : Addr} {fd : FuncData} {ps : List Str} {sp : Sp}
  {dvs : List V} {ds : List Value} {E : XK} {x m : Str} {p pos apos : Pos} {e o : Expr}
  {es : List Expr} {ta : TE} {t : TA} {r : List V → Hp → VK → Prop}

/-- a def as something that is called with values -/
theorem callR_fn (F : Fn X.prog X.w X.K X.mg X.base CX k f fd ps sp) (hc : Calm X.A)
    (hr : Room k X.A) (hb : Binds X.K fd ps ds) (hd : Vals dvs ds) (hx : Passes CX X E) :
    CallR X (.ref f) (fun vs H Q => sp (vs ++ dvs) H Q E) := by
  intro pins s σ H vs us Q I rv h
  have r2 := rv.append hd
  have hl : (us ++ ds).length = ps.length := (r2.length.symm).trans (F.len _ _ _ _ h)
  have go := F.go X.A X.stack s H ⟨us, []⟩ _ _ Q E hc hr I.env0 (hb s us I.kIn hl) r2 h
  refine wpAny_call (codeAny_mono go ?_)
  rintro (e | fl) s' hq
  · exact hx pins σ H s e s' I hq
  · cases fl <;> first | exact I.after hq | exact False.elim hq

/-- f(e, ..), f a def of the module -/
theorem pe_fn (F : Fn X.prog X.w X.K X.mg X.base CX k f fd ps sp) (hc : Calm X.A)
    (hr : Room k X.A) (hg : Gl X x) (hm : X.mg x = some (.ref f))
    (hk : PySem.W.keepIn X.K (.ref f) = true) (hb : Binds X.K fd ps ds) (hd : Vals dvs ds)
    (hx : Passes CX X E) (ha : PA X (e :: es) t)
    (hdb : (x == ("__debug__" : Str)) = false := by decide)
    (he : starEach (e :: es) X.env = (false, eval e X.env) :: starEach es X.env := by rfl)
    (hpl : (backTo pos (starEach es X.env)).any (·.1) = false := by rfl) :
    PE X (.Call (.Name x p) (e :: es) [] pos) (tCall sp dvs E t) := by
  constructor
  intro pins s σ H Q I h
  refine wpAny_Call_Name_kw (ld_glob I hg hm ?_ hdb)
  have hA := ha.run pos pins s σ H _ I h
  refine PySem.W.callWith_K (h₀ := X.base) I.ok.mod.kin hk (thn hA ?_) he hpl
  rintro us s1 ⟨vs, H1, I1, rv, q⟩
  exact ⟨I1.kIn, callR_fn F hc hr hb hd hx pins s1 σ H1 vs us Q I1 rv q⟩
theorem pe_fn0 (F : Fn X.prog X.w X.K X.mg X.base CX k f fd ps sp) (hc : Calm X.A)
    (hr : Room k X.A) (hg : Gl X x) (hm : X.mg x = some (.ref f))
    (hk : PySem.W.keepIn X.K (.ref f) = true) (hb : Binds X.K fd ps ds) (hd : Vals dvs ds)
    (hx : Passes CX X E) (hdb : (x == ("__debug__" : Str)) = false := by decide) :
    PE X (.Call (.Name x p) [] [] pos) (tCall sp dvs E tNil) := by
  constructor
  intro pins s σ H Q I h
  refine wpAny_Call_Name_kw (ld_glob I hg hm ?_ hdb)
  exact PySem.W.callWith_K0 I.kIn hk (callR_fn F hc hr hb hd hx pins s σ H [] [] Q I .nil h)

/-- the tree of a method's call -/
abbrev methTree (X : Cx) (o : Expr) (m : Str) (apos pos : Pos) (es : List Expr) (pl : Sem Bool) : Sem Value := do
  let ov ← eval o X.env
  standAt apos.atName
  let (g, first) ← holding [ov] (getMethod ov m pl)
  callWith pos g first (backTo pos (starEach es X.env)) (backToKw pos (keywordEach [] X.env))

/-- o.m(e, ..), o an instance of the class at C -/
theorem pe_mth {pl : Sem Bool} (he : PE X o ta) (c : Cls X.K C) (hm : Meth X.K C m f)
    (F : Fn X.prog X.w X.K X.mg X.base CX k f fd ps sp) (hc : Calm X.A) (hr : Room k X.A)
    (hb : Binds X.K fd ps ds) (hd : Vals dvs ds) (hx : Passes CX X E) (ha : PA X (e :: es) t)
    (hst : starEach (e :: es) X.env = (false, eval e X.env) :: starEach es X.env := by rfl)
    (hpl : (backTo pos (starEach es X.env)).any (·.1) = false := by rfl)
    (ht : eval (.Call (.Attribute o m apos) (e :: es) [] pos) X.env = methTree X o m apos pos (e :: es) pl := by rfl) :
    PE X (.Call (.Attribute o m apos) (e :: es) [] pos) (tMeth C m sp dvs E ta t) := by
  constructor
  intro pins s σ H Q I h
  refine PySem.W.methodCall_KW (pl := pl) (thn (he.run pins s σ H _ I h) ?_) ht
  rintro u s1 ⟨y, H1, I1, rx, a, dx, fs, rfl, ea, l, q⟩
  obtain rfl : u = Value.ref a := rx
  refine getmeth_ok I1 ea c hm l ?_
  have hA := ha.run pos pins s1 σ H1 _ I1 q
  refine PySem.W.callWith_K (first := [.ref a]) (h₀ := X.base) I.ok.mod.kin hm.kp (thn hA ?_) hst hpl
  rintro us s2 ⟨vs, H2, I2, rv, q2⟩
  have rv2 : Vals (V.ref a :: vs) (Value.ref a :: us) := .cons rfl rv
  exact ⟨I2.kIn, callR_fn F hc hr hb hd hx pins s2 σ H2 _ _ Q I2 rv2 q2⟩
theorem pe_mth0 {pl : Sem Bool} (he : PE X o ta) (c : Cls X.K C) (hm : Meth X.K C m f)
    (F : Fn X.prog X.w X.K X.mg X.base CX k f fd ps sp) (hc : Calm X.A) (hr : Room k X.A)
    (hb : Binds X.K fd ps ds) (hd : Vals dvs ds) (hx : Passes CX X E)
    (ht : eval (.Call (.Attribute o m apos) [] [] pos) X.env = methTree X o m apos pos [] pl := by rfl) :
    PE X (.Call (.Attribute o m apos) [] [] pos) (tMeth C m sp dvs E ta tNil) := by
  constructor
  intro pins s σ H Q I h
  refine PySem.W.methodCall_KW (pl := pl) (thn (he.run pins s σ H _ I h) ?_) ht
  rintro u s1 ⟨y, H1, I1, rx, a, dx, fs, rfl, ea, l, q⟩
  obtain rfl : u = Value.ref a := rx
  refine getmeth_ok I1 ea c hm l ?_
  have rv2 : Vals [V.ref a] [Value.ref a] := .cons rfl .nil
  exact PySem.W.callWith_K0 (first := [.ref a]) I1.kIn hm.kp (callR_fn F hc hr hb hd hx pins s1 σ H1 _ _ Q I1 rv2 q)

/-- C(..), a class of the module with an __init__ of its own, as something that is called with values -/
theorem callR_make (M : Mk X.K C f) (F : Fn X.prog X.w X.K X.mg X.base CX k f fd ps sp) (hc : Calm X.A)
    (hr : Room (k + 1) X.A) (hb : Binds X.K fd ps ds) (hd : Vals dvs ds) (hx : Passes CX X E) :
    CallR X (.ref C) (fun vs H Q => ∀ x dx, H x = none → H dx = none → dx ≠ x →
      sp (.ref x :: (vs ++ dvs)) (upd (upd H dx (.own x)) x (.ins C dx [])) (fun v H2 => v = .non ∧ Q (.ref x) H2) E) := by
  intro pins s σ H vs us Q I rv h
  have n1 := I.hok.fresh (Nat.le_succ s.heap.objs.size)
  have n2 := I.hok.fresh (Nat.le_refl s.heap.objs.size)
  have hq := h (s.heap.objs.size + 1) s.heap.objs.size n1 n2 (Nat.ne_of_lt (Nat.lt_succ_self _))
  have J := Inv.made (C := C) I
  have r2 : Vals (V.ref (s.heap.objs.size + 1) :: (vs ++ dvs)) (Value.ref (s.heap.objs.size + 1) :: (us ++ ds)) :=
    .cons rfl (rv.append hd)
  have hl : (Value.ref (s.heap.objs.size + 1) :: us ++ ds).length = ps.length :=
    (r2.length.symm).trans (F.len _ _ _ _ hq)
  have cg : Calm (X.A.under (.builtin "type.__call__" ⟨.ref C :: us, []⟩)) := by
    first
      | exact hc
      | (show (X.A.under _).guards = _; simp [Around.under, Code.guards, Code.isGuard, guardIds, pushGuards, hc])
  have go := F.go _ X.stack _ _ ⟨Value.ref (s.heap.objs.size + 1) :: us, []⟩ _ _ _ E cg (hr.make C us [])
    (J.env0.make C us []) (hb _ (Value.ref (s.heap.objs.size + 1) :: us) J.kIn hl) r2 hq
  refine wpAny_call (make_map (f := f) I.kIn M.makes M.init (beq_iff_eq.mp M.fn) (codeAny_mono go ?_))
  rintro (e | fl) s' hq'
  · exact hx pins σ _ _ e s' J hq'
  · cases fl with
    | ret u =>
      obtain ⟨v, H', I3, rv3, rfl, q3⟩ := J.after hq'
      exact ⟨rv3, ⟨V.ref (s.heap.objs.size + 1), H', I3, rfl, q3⟩⟩
    | _ => exact False.elim hq'

/-- x(e, ..), whatever x is, if its value is known and it is called by values -/
theorem pe_val (hc : CallR X (.ref C) r) (hg : Gl X x) (hm : X.mg x = some (.ref C))
    (hk : PySem.W.keepIn X.K (.ref C) = true) (ha : PA X (e :: es) t)
    (hdb : (x == ("__debug__" : Str)) = false := by decide)
    (he : starEach (e :: es) X.env = (false, eval e X.env) :: starEach es X.env := by rfl)
    (hpl : (backTo pos (starEach es X.env)).any (·.1) = false := by rfl) :
    PE X (.Call (.Name x p) (e :: es) [] pos) (tCB r t) := by
  constructor
  intro pins s σ H Q I h
  refine wpAny_Call_Name_kw (ld_glob I hg hm ?_ hdb)
  refine PySem.W.callWith_K (h₀ := X.base) I.ok.mod.kin hk (thn (ha.run pos pins s σ H _ I h) ?_) he hpl
  rintro us s1 ⟨vs, H1, I1, rv, q⟩
  exact ⟨I1.kIn, hc pins s1 σ H1 vs us Q I1 rv q⟩
theorem pe_mk (M : Mk X.K C f) (F : Fn X.prog X.w X.K X.mg X.base CX k f fd ps sp) (hc : Calm X.A)
    (hr : Room (k + 1) X.A) (hg : Gl X x) (hm : X.mg x = some (.ref C)) (hb : Binds X.K fd ps ds)
    (hd : Vals dvs ds) (hx : Passes CX X E) (ha : PA X (e :: es) t)
    (hdb : (x == ("__debug__" : Str)) = false := by decide)
    (he : starEach (e :: es) X.env = (false, eval e X.env) :: starEach es X.env := by rfl)
    (hpl : (backTo pos (starEach es X.env)).any (·.1) = false := by rfl) :
    PE X (.Call (.Name x p) (e :: es) [] pos) (tMake C sp dvs E t) :=
  pe_val (callR_make M F hc hr hb hd hx) hg hm M.kp ha hdb he hpl
end

section
variable {P : Program} {w : World} {K : PySem.W.Frag} {mg : Str → Option Value} {base : Heap} {CX : CXT}
/-- a def by its body (any exceptions) -/
theorem fn_by {x qual : Str} {st : Stmt} {f : Addr} {fd : FuncData} {N ps : List Str} {k : Nat} {sp : Sp}
    (F : Fun K x qual st f fd) (S : FnScope N ps (defScope st))
    (len : ∀ vs H Q E, sp vs H Q E → vs.length = ps.length)
    (body : ∀ (cdv : Value) (A : Around) (outer : List Env) (s : Shared) (H : Hp) (vs : List V) (Q : VK) (E : XK),
      Calm A → Room k (A.deeper (envOfC qual (defScope st) s.heap.objs.size f cdv)) → sp vs H Q E →
      ∃ t, PSs (cxOf CX P w K mg base N qual (defScope st) f cdv A outer s H E) (defBody st) t ∧
        t { nx := fun _ H' => Q .non H', rt := Q } (start N vs) H) :
    Fn P w K mg base CX (k + 1) f fd ps sp := by
  obtain ⟨oc, od, kV, doc, pm, an, cdv, ct, osl, rfl, lk, hcd⟩ := F.ex
  refine ⟨len, fun A outer s H args us vs Q E hc hr e0 hb r hsp => ?_⟩
  have hl := len _ _ _ _ hsp
  have KX : K.In s.heap := e0.mod.kin.keeps fun b o e => (e0.bs b o e).1
  have lim : s.heap.NoLimit := e0.mod.nolimit.keeps fun b o e => (e0.bs b o e).1
  have hkind : ∀ y ∈ ps.zip us, (defScope st).names.lookup y.1 = some .local ∨
      ((defScope st).names.lookup y.1 = some .cell ∧
        ((cellsFrom (s.heap.objs.size + 1) (defScope st).names []).lookup y.1).isSome = true) := by
    rintro ⟨n, v⟩ hy
    rcases S.par n (List.of_mem_zip hy).1 with q | q
    · exact .inl q
    · exact .inr ⟨q, PySem.W.cellsFrom_some _ _ _ (.inl q)⟩
  have cr := PySem.W.codeRec_of KX hcd
  refine codeAny_call_function hr.depth (KX _ _ lk) rfl S.co S.gen rfl cr (hb _ _ _ _ ?_)
  refine wpAny_newFunctionEnv_cells S.kind hkind fun env he s1 z => ?_
  subst he
  refine ⟨lim.keeps z.toInCall.keep, codeAny_func ?_⟩
  obtain ⟨t, ht, hq⟩ := body cdv A outer s H vs Q E hc (hr.deeper _) hsp
  have I := inv_start (CX := CX) (E := E) S hr.hd e0 hl r z
  refine wpAny_mono (ht.run [] s1 (start N vs) H _ I hq) ?_ fun e s' hs => hs
  rintro fl s' hs
  cases fl with
  | ret u =>
    obtain ⟨v, σ', H', J, rv, q⟩ := hs
    exact ⟨v, H', J.os, J.bare, J.base, J.hok, rv, q⟩
  | next =>
    obtain ⟨σ', H', J, q⟩ := hs
    exact ⟨V.non, H', J.os, J.bare, J.base, J.hok, rfl, q⟩
  | brk =>
    obtain ⟨_, _, _, q⟩ := hs
    exact q.elim
  | cont =>
    obtain ⟨_, _, _, q⟩ := hs
    exact q.elim
/-- a def that no exception leaves -/
theorem fn_calm {x qual : Str} {st : Stmt} {f : Addr} {fd : FuncData} {N ps : List Str} {k : Nat} {sp : Sp}
    (F : Fun K x qual st f fd) (S : FnScope N ps (defScope st))
    (len : ∀ vs H Q E, sp vs H Q E → vs.length = ps.length)
    (body : ∀ (cdv : Value) (A : Around) (outer : List Env) (s : Shared) (H : Hp) (vs : List V) (Q : VK) (E : XK),
      Calm A → Room k (A.deeper (envOfC qual (defScope st) s.heap.objs.size f cdv)) → sp vs H Q E →
      ∃ t, PSs (cxOf CX0 P w K mg base N qual (defScope st) f cdv A outer s H E).nox (defBody st) t ∧
        t { nx := fun _ H' => Q .non H', rt := Q } (start N vs) H) :
    Fn P w K mg base CX0 (k + 1) f fd ps sp := by
  refine fn_by F S len fun cdv A outer s H vs Q E hc hr hsp => ?_
  obtain ⟨t, h, q⟩ := body cdv A outer s H vs Q E hc hr hsp
  exact ⟨t, h.nox, q⟩
end

/-! the end: from the promise of the law's def to the row -/
/-- what every base has: the table of modules -/
abbrev HasMods (base : Heap) : Prop := ∃ o, base.get? sysModules = some o
theorem ns_some {h : Heap} {b : Addr} {m : Str → Option Value} (n : h.Ns b m) : ∃ o es ep, h.get? b = some o ∧ o.data = .dict es ep := by
  obtain ⟨o, es, ep, e, d, _⟩ := n
  exact ⟨o, es, ep, e, d⟩

section
variable {P : Program} {w : World} {K : PySem.W.Frag} {mg mb : Str → Option Value} {k : Nat}
  {fa a : Addr} {fd : FuncData} {x : Str} {sp : Sp} {t : Shared} {vs : List Value} {ns : List Int}
/-- the law's def is called at the heap behind the top -/
theorem law_at (KX : K.In t.heap) (hns : t.heap.Ns mainGlobals mg) (hb : t.heap.Ns builtinsNs mb)
    (hbb : ∀ x : Str, x ≠ "__name__" → mb x = bootBuiltins x) (hlim : t.heap.NoLimit) {mm : Str → Option Value}
    (hmod : t.heap.Ns sysModules mm) (hg : t.gens = #[])
    (ha : t.heap.get? a = some { cls := .type "list", data := .seq vs.toArray }) (hi : IntsAre vs ns)
    (hl : ns.length ≤ sizeLine) (hr : Room k callerA)
    (F : ∀ base : Heap, K.In base → base.Ns mainGlobals mg → HasMods base → Fn P w K mg base CX0 k fa fd [x] sp)
    (hbind : ∀ (s : Shared) (u : Value), BindsTo s fd ⟨[u], []⟩ [(x, u)])
    (hsp : ∀ H : Hp, Only H → SqL K H a (ns.map V.int) → sp [.ref a] H (fun v _ => v = .bl true) fun _ _ _ => False) :
    codeAny (model P w) callerA (.call (.ref fa) ⟨[.ref a], []⟩)
      (fun r s' => r = .ok (.ret (.bool true)) ∧ OldK t.heap s'.heap ∧ s'.os = t.os ∧ AllBare s'.gens) t := by
  have rv := vals_ints hi
  have lenV := hi.length
  -- whatever is tracked at first, it is the script alone
  have core : ∀ H : Hp, Only H → SqL K H a (ns.map V.int) → HOk P w H t.heap → (∀ b, H b ≠ none → b = a) →
      (H a ≠ none → K.lookup a = none) →
      codeAny (model P w) callerA (.call (.ref fa) ⟨[.ref a], []⟩)
        (fun r s' => r = .ok (.ret (.bool true)) ∧ OldK t.heap s'.heap ∧ s'.os = t.os ∧ AllBare s'.gens) t := by
    intro H hO hS hok hA hK
    have noA : ∀ {b : Addr} {o : Obj} {es : Array DictEntry} {ep : Nat}, t.heap.get? b = some o → o.data = .dict es ep → H b = none := by
      intro b o es ep e d
      by_cases q : H b = none
      · exact q
      · have e' := hA b q
        rw [e', ha] at e
        cases e
        exact (nomatch (show Data.seq vs.toArray _ = Data.dict es ep from d))
    have nsK : ∀ {b : Addr} {m : Str → Option Value}, t.heap.Ns b m → (hidT t.heap H).Ns b m := by
      rintro b m ⟨o, es, ep, e, d, r⟩
      exact ⟨o, es, ep, hidT_get e (noA e d), d, r⟩
    have hKb : K.In (hidT t.heap H) := by
      intro b o e
      refine hidT_get (KX b o e) ?_
      by_cases q : H b = none
      · exact q
      · have e' := hA b q
        rw [e'] at e q
        rw [hK q] at e
        cases e
    have hM : Mod K mg (hidT t.heap H) := by
      obtain ⟨mc, h1, h2⟩ := hlim
      exact ⟨hKb, nsK hns, ⟨mb, nsK hb, hbb⟩, mc, nsK h1, h2⟩
    have hMods : HasMods (hidT t.heap H) := by
      obtain ⟨o, es, ep, e, d⟩ := ns_some hmod
      exact ⟨o, hidT_get e (noA e d)⟩
    have e0 : Env0 P w K mg (hidT t.heap H) callerA [] t H := by
      refine ⟨rfl, hM, fun b o e => of_hidT e, Nat.le_of_eq (hidT_size _ _), trivial, fun b hb' => ?_, hok, .of_eq hg⟩
      exact absurd (show b ∈ ([] : List Addr) from hb') (by simp)
    have go := (F _ hKb (nsK hns) hMods).go callerA [] t H ⟨[.ref a], []⟩ [.ref a] [.ref a] _ _ rfl hr e0
      (hbind t (.ref a)) (.cons rfl .nil) (hsp H hO hS)
    refine codeAny_mono go ?_
    rintro (e | fl) s' h
    · exact (show False from h).elim
    · cases fl with
      | ret u =>
        obtain ⟨v, H', os, bare, un, hok', r', rfl⟩ := h
        obtain rfl : u = Value.bool true := r'
        refine ⟨rfl, OldK.of_keep fun b o e => ?_, os, bare⟩
        by_cases q : H b = none
        · exact un.keep b o e q (by intro z; exact absurd (show b ∈ ([] : List Addr) from z) (by simp)) (by simp)
        · rcases hO b with z | ⟨ob, xs, z⟩
          · exact absurd z q
          · have z2 := un.frzs b ob _ z
            have e1 := (hok b _ z).1
            have e2 := (hok' b _ z2).1
            rw [e] at e1
            cases e1
            exact e2
      | _ => exact False.elim h
  cases hk : K.lookup a with
  | some o =>
    have e := KX a o hk
    rw [ha] at e
    cases e
    refine core (fun _ => none) (fun _ => .inl rfl) (.inr ?_) (fun b u z => ?_) (fun b z => absurd rfl z) fun z => absurd rfl z
    · exact ⟨_, vs.toArray, _, hk, rfl, rfl, rfl, by rw [List.size_toArray, lenV]; exact hl, by simpa using rv⟩
    · exact (nomatch (show (none : Option HO) = some u from z))
  | none =>
    let H : Hp := fun b => if b = a then some (.frz { cls := .type "list", data := .seq vs.toArray } (.lst (ns.map V.int))) else none
    have hHa : H a = some (.frz { cls := .type "list", data := .seq vs.toArray } (.lst (ns.map V.int))) := if_pos rfl
    have hHn : ∀ b, b ≠ a → H b = none := fun b n => if_neg n
    refine core H (fun b => ?_) (.inl (.inr ⟨_, hHa⟩)) (fun b u z => ?_) (fun b z => ?_) fun _ => hk
    · by_cases e : b = a
      · exact .inr ⟨_, _, by rw [e]; exact hHa⟩
      · exact .inl (hHn b e)
    · by_cases e : b = a
      · subst e
        rw [hHa] at z
        cases z
        exact ⟨ha, by rw [List.length_map]; exact hl, vs, _, rv, ha⟩
      · rw [hHn b e] at z
        cases z
    · by_cases e : b = a
      · exact e
      · exact absurd (hHn b e) z
end

/-- the goal that the head leaves, from the law's promise; the promise hangs on the written part alone -/
theorem walk_by {l : PySem.W.OpenLaw} {n k : Nat} {q : Program} {loose : List Str} {XP : (Str → Option Value) → Heap → Prop}
    {YP : World → Heap → Prop} {d : DefRec} {K : Params → PySem.W.Frag} {sp : PySem.W.Frag → Sp} {x : Str}
    (hn : l.most = some n) (hn2 : n ≤ sizeLine) (hdf : d.params.defaults = []) (hr : Room k callerA) (himp : importsNone q = true)
    (hY : ∀ (w : World) (h : Heap), YP w h → (K w.params).In h)
    (F : ∀ (w : World) (mg : Str → Option Value) (fa : Addr) (h : Heap), (K w.params).In h → h.Ns mainGlobals mg →
      mg d.name = some (.ref fa) → ∃ fd : FuncData, (∀ (s : Shared) (u : Value), BindsTo s fd ⟨[u], []⟩ [(x, u)]) ∧
        ∀ base : Heap, (K w.params).In base → base.Ns mainGlobals mg → HasMods base →
          Fn l.prog w (K w.params) mg base CX0 k fa fd [x] (sp (K w.params)))
    (hsp : ∀ (K : PySem.W.Frag) (H : Hp) (a : Addr) (ns : List Int), ns.length ≤ n → Only H → SqL K H a (ns.map V.int) →
      sp K [.ref a] H (fun v _ => v = .bl true) fun _ _ _ => False) :
    PySem.W.WalkO q loose XP YP l.row.toRowW d [] (fun f vs => PySem.call f vs) := by
  refine Att.attach_call hn hdf fun w s₀ t mg mb fa o pm cd doc a vs ns G Y ho hd hcd hmg hobj hints hlen hg => ?_
  have KX := hY w _ Y
  obtain ⟨fd, hb, hF⟩ := F w mg fa _ KX G.T.g hmg
  obtain ⟨mm, hmm⟩ : ∃ mm, t.heap.Ns sysModules mm := by
    obtain ⟨mm, z, _⟩ := (G.T.seer himp).mods
    exact ⟨mm, z⟩
  exact law_at KX G.T.g G.T.b G.T.builtins G.T.nolimit hmm hg hobj hints (Nat.le_trans hlen hn2) hr hF hb
    fun H hO hS => hsp _ H a ns hlen hO hS
end G

set_option Elab.async false
set_option linter.all false
set_option maxRecDepth 100000
set_option maxHeartbeats 4000000
/-! Data as trees, with instances as leaves: what stands in the heap, repr, ==, isinstance. -/
namespace D
open PySem PySem.Spec PyProof.Rows L2 G

inductive Dat where
  | non | bl (b : Bool) | int (i : Int) | str (x : Str)
  | lst (xs : List Dat) | tup (xs : List Dat)
  | dct (ks : List Key) (vs : List Dat)
  | obj (C a : Addr)

/-- what isinstance must know of a class of one's own -/
structure OwnC (K : PySem.W.Frag) (C : Addr) : Prop where
  cl : Cls K C
  ha : PySem.W.findIn K (.ref C) "__class__" = some (some (.builtin "object.__class__"))
  hn : PySem.W.specialIn K (.builtin "object.__class__") "__get__" = some (some (.builtin "getset_descriptor.__get__"))
  ht : PySem.W.takesIn K (.builtin "object.__class__") = some true
  hm : PySem.W.mroIn K C (.type "object") = some true
  i1 : PySem.W.kitOne K (.ref C) (.type "int") = some false
  i2 : PySem.W.kitOne K (.ref C) (.type "bool") = some false
  i3 : PySem.W.kitOne K (.ref C) (.type "str") = some false
  i4 : PySem.W.kitOne K (.ref C) (.type "list") = some false
  i5 : PySem.W.kitOne K (.ref C) (.type "tuple") = some false
  i6 : PySem.W.kitOne K (.ref C) (.type "dict") = some false

section
variable (K : PySem.W.Frag) (H : Hp)
mutual
/-- v stands for the tree, in H -/
def Rep : V → Dat → Prop
  | v, .non => v = .non
  | v, .bl b => v = .bl b
  | v, .int i => v = .int i
  | v, .str x => v = .str x
  | v, .lst ds => ∃ a xs, v = .ref a ∧ H a = some (.lst xs) ∧ RepAll xs ds
  | v, .tup ds => ∃ a xs, v = .ref a ∧ H a = some (.tup xs) ∧ RepAll xs ds
  | v, .dct ks ds => ∃ a kvs, v = .ref a ∧ H a = some (.dK kvs) ∧ kvs.map (·.1) = ks ∧ RepAll (kvs.map (·.2)) ds
  | v, .obj C a => v = .ref a ∧ OwnC K C ∧ ∃ dx fs, H a = some (.ins C dx fs)
def RepAll : List V → List Dat → Prop
  | vs, [] => vs = []
  | vs, d :: ds => ∃ v r, vs = v :: r ∧ Rep v d ∧ RepAll r ds
end
end

section
variable {K : PySem.W.Frag} {H H' : Hp}
mutual
theorem Rep.mono (h : Same H H') : ∀ (d : Dat) {v : V}, Rep K H v d → Rep K H' v d
  | .non, _, r => r
  | .bl _, _, r => r
  | .int _, _, r => r
  | .str _, _, r => r
  | .lst ds, _, ⟨a, xs, e, q, r⟩ => ⟨a, xs, e, h _ _ q, RepAll.mono h ds r⟩
  | .tup ds, _, ⟨a, xs, e, q, r⟩ => ⟨a, xs, e, h _ _ q, RepAll.mono h ds r⟩
  | .dct _ ds, _, ⟨a, kvs, e, q, k, r⟩ => ⟨a, kvs, e, h _ _ q, k, RepAll.mono h ds r⟩
  | .obj _ _, _, ⟨e, o, dx, fs, q⟩ => ⟨e, o, dx, fs, h _ _ q⟩
theorem RepAll.mono (h : Same H H') : ∀ (ds : List Dat) {vs : List V}, RepAll K H vs ds → RepAll K H' vs ds
  | [], _, r => r
  | d :: ds, _, ⟨v, r, e, q, t⟩ => ⟨v, r, e, Rep.mono h d q, RepAll.mono h ds t⟩
end
theorem RepAll.length : ∀ {ds : List Dat} {vs : List V}, RepAll K H vs ds → vs.length = ds.length
  | [], _, r => by cases (show _ = [] from r); rfl
  | _ :: ds, _, ⟨v, r, e, _, t⟩ => by subst e; simp [RepAll.length t]
theorem RepAll.get : ∀ {ds : List Dat} {vs : List V} {i : Nat} {v : V}, RepAll K H vs ds → vs[i]? = some v → ∃ d, ds[i]? = some d ∧ Rep K H v d
  | [], _, i, v, r, e => by cases (show _ = [] from r); simp at e
  | d :: ds, _, 0, v, ⟨w, r, e', q, t⟩, e => by subst e'; simp at e; subst e; exact ⟨d, rfl, q⟩
  | d :: ds, _, i + 1, v, ⟨w, r, e', q, t⟩, e => by
    subst e'
    obtain ⟨d', h1, h2⟩ := RepAll.get (i := i) (v := v) t (by simpa using e)
    exact ⟨d', by simpa using h1, h2⟩
theorem RepAll.nth : ∀ {ds : List Dat} {vs : List V} {i : Nat} {d : Dat}, RepAll K H vs ds → ds[i]? = some d → ∃ v, vs[i]? = some v ∧ Rep K H v d
  | [], _, i, d, r, e => by simp at e
  | d :: ds, _, 0, d', ⟨w, r, e', q, t⟩, e => by subst e'; simp at e; subst e; exact ⟨w, rfl, q⟩
  | d :: ds, _, i + 1, d', ⟨w, r, e', q, t⟩, e => by
    subst e'
    obtain ⟨v, h1, h2⟩ := RepAll.nth (i := i) (d := d') t (by simpa using e)
    exact ⟨v, by simpa using h1, h2⟩
theorem RepAll.append : ∀ {ds es : List Dat} {vs us : List V}, RepAll K H vs ds → RepAll K H us es → RepAll K H (vs ++ us) (ds ++ es)
  | [], _, _, _, r, q => by cases (show _ = [] from r); exact q
  | _ :: ds, _, _, _, ⟨v, r, e, a, t⟩, q => by subst e; exact ⟨v, _, rfl, a, RepAll.append t q⟩
theorem RepAll.one {v : V} {d : Dat} (h : Rep K H v d) : RepAll K H [v] [d] := ⟨v, [], rfl, h, rfl⟩
theorem RepAll.set : ∀ {ds : List Dat} {vs : List V} (i : Nat) {v : V} {d : Dat}, RepAll K H vs ds → Rep K H v d → RepAll K H (vs.set i v) (ds.set i d)
  | [], _, i, v, d, r, q => by cases (show _ = [] from r); exact rfl
  | _ :: ds, _, 0, v, d, ⟨w, r, e, a, t⟩, q => by subst e; exact ⟨v, r, rfl, q, t⟩
  | _ :: ds, _, i + 1, v, d, ⟨w, r, e, a, t⟩, q => by subst e; exact ⟨w, _, rfl, a, RepAll.set i t q⟩
theorem RepAll.take : ∀ {ds : List Dat} {vs : List V} (n : Nat), RepAll K H vs ds → RepAll K H (vs.take n) (ds.take n)
  | [], _, n, r => by cases (show _ = [] from r); simp; exact rfl
  | _ :: ds, _, 0, ⟨w, r, e, a, t⟩ => by subst e; exact rfl
  | _ :: ds, _, n + 1, ⟨w, r, e, a, t⟩ => by subst e; exact ⟨w, _, rfl, a, RepAll.take n t⟩
theorem RepAll.drop : ∀ {ds : List Dat} {vs : List V} (n : Nat), RepAll K H vs ds → RepAll K H (vs.drop n) (ds.drop n)
  | [], _, n, r => by cases (show _ = [] from r); simp; exact rfl
  | _ :: ds, _, 0, ⟨w, r, e, a, t⟩ => by subst e; exact ⟨w, r, rfl, a, t⟩
  | _ :: ds, _, n + 1, ⟨w, r, e, a, t⟩ => by subst e; exact RepAll.drop n t
/-- texts alone -/
theorem RepAll.strs : ∀ {xs : List Str} {vs : List V}, RepAll K H vs (xs.map Dat.str) → vs = xs.map V.str
  | [], _, r => r
  | x :: xs, _, ⟨v, r, e, q, t⟩ => by
    subst e
    rw [show v = V.str x from q, RepAll.strs (xs := xs) t]
    rfl
theorem RepAll.of_strs : ∀ (xs : List Str), RepAll K H (xs.map V.str) (xs.map Dat.str)
  | [] => rfl
  | x :: xs => ⟨_, _, rfl, rfl, RepAll.of_strs xs⟩
theorem RepAll.of_bls : ∀ (xs : List Bool), RepAll K H (xs.map V.bl) (xs.map Dat.bl)
  | [] => rfl
  | x :: xs => ⟨_, _, rfl, rfl, RepAll.of_bls xs⟩
end

/-! ### data of the library -/
def keyD : Key → PyData
  | .inl i => .int i
  | .inr x => .str x
mutual
def Dat.py : Dat → PyData
  | .non => .none
  | .bl b => .bool b
  | .int i => .int i
  | .str x => .str x
  | .lst ds => .list (pyAll ds)
  | .tup ds => .tuple (pyAll ds)
  | .dct ks ds => .dict ((ks.map keyD).zip (pyAll ds))
  | .obj _ _ => .none
def pyAll : List Dat → List PyData
  | [] => []
  | d :: ds => d.py :: pyAll ds
end
mutual
/-- no instance in it -/
def Dat.pure : Dat → Bool
  | .lst ds => pureAll ds
  | .tup ds => pureAll ds
  | .dct _ ds => pureAll ds
  | .obj _ _ => false
  | _ => true
def pureAll : List Dat → Bool
  | [] => true
  | d :: ds => d.pure && pureAll ds
end
theorem pyAll_map : ∀ ds : List Dat, pyAll ds = ds.map Dat.py
  | [] => rfl
  | d :: ds => by rw [pyAll, pyAll_map ds]; rfl
theorem pureAll_all : ∀ ds : List Dat, pureAll ds = ds.all Dat.pure
  | [] => rfl
  | d :: ds => by rw [pureAll, pureAll_all ds]; rfl

section
variable {X : Cx} {pins : List (Addr × Obj)} {σ : L2.St} {H : Hp} {s : Shared}
theorem tracked_ne (I : Inv X pins σ H s) {a : Addr} {o : HO} (h : H a = some o) : a ≠ sysModules ∨ True := .inr trivial

theorem keys_read {h : Heap} : ∀ {es : List DictEntry} {kvs : List (Key × Value)} {P : Program} {w : World}, Pairs (mixKind P w) es kvs →
    ReadsAll h (es.map (·.key)) ((kvs.map (·.1)).map keyD) [] ∧ es.map (·.val) = kvs.map (·.2) := by
  intro es kvs P w h1
  induction h1 with
  | nil => exact ⟨.nil, rfl⟩
  | @cons e kv es kvs hk hv _ ih =>
    refine ⟨?_, by rw [List.map_cons, List.map_cons, ih.2, hv]⟩
    have hk' : keyIs kv.1 e.key = true := hk
    have q : Reads h e.key (keyD kv.1) [] := by
      rcases keyIs_shape hk' with ⟨i, t, e1, e2⟩ | ⟨x, t, e1, e2⟩
      · rw [e1, e2]; exact Reads.int i t
      · rw [e1, e2]; exact Reads.str x t
    exact ReadsAll.cons (as := []) (bs := []) q ih.1
theorem kv_vals : ∀ {kvs : List (Key × V)} {vs : List (Key × Value)}, KV kvs vs → kvs.map (·.1) = vs.map (·.1) ∧ Vals (kvs.map (·.2)) (vs.map (·.2)) := by
  intro kvs vs h
  unfold KV at h
  induction h with
  | nil => exact ⟨rfl, .nil⟩
  | cons a _ ih => exact ⟨by rw [List.map_cons, List.map_cons, a.1, ih.1], .cons a.2 ih.2⟩

mutual
theorem Rep.reads (I : Inv X pins σ H s) : ∀ (d : Dat) (v : V) (u : Value), Rep X.K H v d → d.pure = true → RelV v u →
    ∃ as, Reads s.heap u d.py as ∧ ∀ b ∈ as, ∃ o, H b = some o ∧ ((∃ xs, o = .lst xs) ∨ ∃ kvs, o = .dK kvs)
  | .non, v, u, h, p, r => by
    cases (show v = .non from h)
    cases (show u = _ from r)
    exact ⟨[], .none, fun _ z => by simp at z⟩
  | .bl b, v, u, h, p, r => by
    cases (show v = .bl b from h)
    cases (show u = _ from r)
    exact ⟨[], .bool b, fun _ z => by simp at z⟩
  | .int i, v, u, h, p, r => by
    cases (show v = .int i from h)
    obtain ⟨t, rfl⟩ := (show ∃ t, u = Value.int i t from r)
    exact ⟨[], .int i t, fun _ z => by simp at z⟩
  | .str x, v, u, h, p, r => by
    cases (show v = .str x from h)
    obtain ⟨t, rfl⟩ := (show ∃ t, u = Value.str x t from r)
    exact ⟨[], .str x t, fun _ z => by simp at z⟩
  | .lst ds, v, u, h, p, r => by
    obtain ⟨a, xs, rfl, ha, hs⟩ := h
    cases (show u = Value.ref a from r)
    obtain ⟨_, its, n, rv, ho⟩ := (show ObjOk X.prog X.w H s.heap a (.lst xs) from I.hok a _ ha)
    obtain ⟨as, q, k⟩ := RepAll.reads I ds xs its hs p rv
    refine ⟨a :: as, .list ho rfl rfl q, fun b z => ?_⟩
    rcases List.mem_cons.mp z with rfl | z
    · exact ⟨_, ha, .inl ⟨_, rfl⟩⟩
    · exact k b z
  | .tup ds, v, u, h, p, r => by
    obtain ⟨a, xs, rfl, ha, hs⟩ := h
    cases (show u = Value.ref a from r)
    obtain ⟨_, its, rv, o, ho, hc, n, hd⟩ := (show ObjOk X.prog X.w H s.heap a (.tup xs) from I.hok a _ ha)
    obtain ⟨as, q, k⟩ := RepAll.reads I ds xs its hs p rv
    exact ⟨as, .tuple ho hc hd q, k⟩
  | .dct ks ds, v, u, h, p, r => by
    obtain ⟨a, kvs, rfl, ha, hk, hs⟩ := h
    cases (show u = Value.ref a from r)
    obtain ⟨_, _, vs, rv, o, es, ep, ho, hx, hd, _, hp, _⟩ := (show ObjOk X.prog X.w H s.heap a (.dK kvs) from I.hok a _ ha)
    obtain ⟨e1, e2⟩ := kv_vals rv
    obtain ⟨k1, k2⟩ := keys_read (h := s.heap) hp
    obtain ⟨as, q, k⟩ := RepAll.reads I ds _ _ hs p e2
    have len : (ks.map keyD).length = (pyAll ds).length := by
      rw [pyAll_map, List.length_map, List.length_map, ← hs.length, ← hk, List.length_map, List.length_map]
    refine ⟨a :: [] ++ as, .dict ho hx.1 hd (?_ : ReadsAll _ _ _ []) (?_ : ReadsAll _ _ _ as), fun b z => ?_⟩
    · rw [List.map_fst_zip (Nat.le_of_eq len), ← hk, e1]; exact k1
    · rw [List.map_snd_zip (Nat.le_of_eq len.symm), k2]; exact q
    · rcases List.mem_cons.mp z with rfl | z
      · exact ⟨_, ha, .inr ⟨_, rfl⟩⟩
      · exact k b z
  | .obj C a, _, _, _, p, _ => by cases (show false = true from p)
theorem RepAll.reads (I : Inv X pins σ H s) : ∀ (ds : List Dat) (vs : List V) (us : List Value), RepAll X.K H vs ds → pureAll ds = true → Vals vs us →
    ∃ as, ReadsAll s.heap us (pyAll ds) as ∧ ∀ b ∈ as, ∃ o, H b = some o ∧ ((∃ xs, o = .lst xs) ∨ ∃ kvs, o = .dK kvs)
  | [], vs, us, h, _, r => by
    cases (show vs = [] from h)
    cases r
    exact ⟨[], .nil, fun _ z => by simp at z⟩
  | d :: ds, vs, us, h, p, r => by
    obtain ⟨v, t, rfl, h1, h2⟩ := h
    have p' : (d.pure && pureAll ds) = true := p
    rw [Bool.and_eq_true] at p'
    cases r with
    | cons r1 r2 =>
      obtain ⟨as, q1, k1⟩ := Rep.reads I d v _ h1 p'.1 r1
      obtain ⟨bs, q2, k2⟩ := RepAll.reads I ds t _ h2 p'.2 r2
      refine ⟨as ++ bs, .cons q1 q2, fun b z => ?_⟩
      rcases List.mem_append.mp z with z | z
      · exact k1 b z
      · exact k2 b z
end
end

/-! ### repr -/
def Dat.dep : Dat → Nat := fun d => d.py.depth
/-- fit to be shown: no instance, small enough at every place -/
structure Fine (k n : Nat) (d : Dat) : Prop where
  pu : d.pure = true
  sh : d.py.showable = true
  dp : d.py.depth ≤ k
  ln : d.py.shown.length ≤ n
theorem Fine.mono {k n k' n' : Nat} {d : Dat} (h : Fine k n d) (a : k ≤ k') (b : n ≤ n') : Fine k' n' d :=
  ⟨h.pu, h.sh, Nat.le_trans h.dp a, Nat.le_trans h.ln b⟩
theorem fine_all {k n : Nat} : ∀ {ds : List Dat}, (∀ d ∈ ds, Fine k n d) → pureAll ds = true ∧ PyData.showableAll (pyAll ds) = true ∧
    PyData.depthAll (pyAll ds) ≤ k ∧ ((PyData.shownAll (pyAll ds)).map (·.length)).sum ≤ ds.length * n ∧ (PyData.shownAll (pyAll ds)).length = ds.length
  | [], _ => ⟨rfl, by simp [pyAll, PyData.showableAll], by simp [pyAll, PyData.depthAll], by simp [pyAll, PyData.shownAll], by simp [pyAll, PyData.shownAll]⟩
  | d :: ds, h => by
    obtain ⟨a, b, c, e, f⟩ := fine_all (ds := ds) fun x hx => h x (List.mem_cons_of_mem _ hx)
    have q := h d List.mem_cons_self
    refine ⟨?_, ?_, ?_, ?_, ?_⟩
    · simp [pureAll, a, q.pu]
    · simp [pyAll, PyData.showableAll, b, q.sh]
    · simp only [pyAll, PyData.depthAll]
      have := q.dp
      omega
    · simp only [pyAll, PyData.shownAll, List.map_cons, List.sum_cons, List.length_cons]
      have := q.ln
      rw [Nat.add_mul]
      omega
    · simp only [pyAll, PyData.shownAll, List.length_cons, f]
theorem fine_lst {k n m : Nat} {ds : List Dat} (h : ∀ d ∈ ds, Fine k n d) (hm : ds.length ≤ m) : Fine (k + 1) (m * (n + 2) + 3) (.lst ds) := by
  obtain ⟨a, b, c, e, f⟩ := fine_all h
  refine ⟨a, ?_, ?_, ?_⟩
  · simp only [Dat.py, PyData.showable, b]
  · simp only [Dat.py, PyData.depth]; omega
  · simp only [Dat.py, PyData.shown]
    refine Nat.le_trans (listText_len_le _) ?_
    have h1 : ds.length * n ≤ m * n := Nat.mul_le_mul_right _ hm
    rw [f, Nat.mul_add]
    omega
theorem fine_tup {k n m : Nat} {ds : List Dat} (h : ∀ d ∈ ds, Fine k n d) (hm : ds.length ≤ m) : Fine (k + 1) (m * (n + 2) + 3) (.tup ds) := by
  obtain ⟨a, b, c, e, f⟩ := fine_all h
  refine ⟨a, ?_, ?_, ?_⟩
  · simp only [Dat.py, PyData.showable, b]
  · simp only [Dat.py, PyData.depth]; omega
  · simp only [Dat.py, PyData.shown]
    refine Nat.le_trans (tupleText_len_le _) ?_
    have h1 : ds.length * n ≤ m * n := Nat.mul_le_mul_right _ hm
    rw [f, Nat.mul_add]
    omega
theorem fine_str {n : Nat} {x : Str} (h : (reprText x).length ≤ n) : Fine 1 n (.str x) := ⟨rfl, by simp [Dat.py, PyData.showable], by simp [Dat.py, PyData.depth], by simpa [Dat.py, PyData.shown] using h⟩
theorem fine_bl (b : Bool) : Fine 1 5 (.bl b) := by
  refine ⟨rfl, by simp [Dat.py, PyData.showable], by simp [Dat.py, PyData.depth], ?_⟩
  cases b <;> simp only [Dat.py, PyData.shown] <;> decide
theorem fine_non : Fine 1 5 .non := by
  refine ⟨rfl, by simp [Dat.py, PyData.showable], by simp [Dat.py, PyData.depth], ?_⟩
  simp only [Dat.py, PyData.shown]; decide

section
variable {X : Cx}
def rRepr (K : PySem.W.Frag) : List V → Hp → VK → Prop := fun vs H Q => ∃ v d, vs = [v] ∧ Rep K H v d ∧ Fine 100 sizeLine d ∧ Q (.str d.py.shown) H
theorem low_mods (I : Inv X pins σ H s) (hM : HasMods X.base) {b : Addr} {o : HO} (h : H b = some o) : b ≠ sysModules := by
  rintro rfl
  obtain ⟨o', e⟩ := hM
  rw [(I.bs _ _ e).2] at h
  cases h
theorem call_repr (hc : Calm X.A) (hM : HasMods X.base) (hu : X.A.units + 110 < cLine) : CallR X (.builtin "repr") (rRepr X.K) := by
  intro pins s σ H vs us Q I r h
  obtain ⟨v, d, rfl, hv, hf, q⟩ := h
  obtain ⟨u, rfl, ru⟩ := vals1 r
  obtain ⟨as, hr, k⟩ := Rep.reads I d v u hv hf.pu ru
  have hsm : d.py.hasDict = true → sysModules ∉ as := fun _ z => by
    obtain ⟨o, e, _⟩ := k _ z
    exact low_mods I hM e rfl
  have fin : ∀ (h' : Heap) (t : Tok) (tk : Nat), (∀ b o, s.heap.get? b = some o → h'.get? b = some o) →
      EP X pins σ Q (.str d.py.shown t) { s with heap := h', toks := tk } := fun h' t tk hk =>
    ⟨.str _, H, I.kept hk, ⟨t, rfl⟩, q⟩
  have hdp := hf.dp
  have byRef : ∀ a, u = Value.ref a → wpAny (model X.prog X.w) X.A (call (.builtin "repr") [u]) (EP X pins σ Q) X.xe s := by
    rintro a rfl
    exact repr_of_reads' hr hf.sh hsm hc (by omega) (fun _ _ e => e) fin hf.ln
  cases d with
  | obj C a => cases (show false = true from hf.pu)
  | lst ds => obtain ⟨a, _, rfl, _⟩ := hv; exact byRef a ru
  | tup ds => obtain ⟨a, _, rfl, _⟩ := hv; exact byRef a ru
  | dct ks ds => obtain ⟨a, _, rfl, _⟩ := hv; exact byRef a ru
  | non =>
    cases (show v = V.non from hv)
    cases (show u = _ from ru)
    exact P.repr_of_none ⟨.str _, H, I.tok _, ⟨s.toks, by simp only [Dat.py, PyData.shown]⟩, q⟩
  | bl b =>
    cases (show v = V.bl b from hv)
    cases (show u = _ from ru)
    exact P.repr_of_bool ⟨.str _, H, I.tok _, ⟨s.toks, by cases b <;> simp only [Dat.py, PyData.shown]⟩, q⟩
  | int i =>
    cases (show v = V.int i from hv)
    obtain ⟨t, rfl⟩ := (show ∃ t, u = Value.int i t from ru)
    have hs := hf.sh
    simp only [Dat.py, PyData.showable, decide_eq_true_eq] at hs
    exact P.repr_of_int hs ⟨.str _, H, I.tok _, ⟨s.toks, by simp only [Dat.py, PyData.shown]⟩, q⟩
  | str x =>
    cases (show v = V.str x from hv)
    obtain ⟨t, rfl⟩ := (show ∃ t, u = Value.str x t from ru)
    have hl := hf.ln
    simp only [Dat.py, PyData.shown] at hl
    exact P.repr_of_str ⟨.str _, H, I.tok _, ⟨s.toks, by simp only [Dat.py, PyData.shown]⟩, q⟩ hl
end

/-! ### what isinstance says -/
def Dat.ty : Dat → Value
  | .non => .type "NoneType"
  | .bl _ => .type "bool"
  | .int _ => .type "int"
  | .str _ => .type "str"
  | .lst _ => .type "list"
  | .tup _ => .type "tuple"
  | .dct _ _ => .type "dict"
  | .obj C _ => .ref C
def Dat.isStr : Dat → Bool
  | .str _ => true
  | _ => false
def Dat.isTup : Dat → Bool
  | .tup _ => true
  | _ => false
def Dat.isSeq : Dat → Bool
  | .tup _ => true
  | .lst _ => true
  | _ => false
def Dat.isInt : Dat → Bool
  | .int _ => true
  | .bl _ => true
  | _ => false
def Dat.isBl : Dat → Bool
  | .bl _ => true
  | _ => false
section
variable {K : PySem.W.Frag} {H : Hp}
theorem Rep.ty {d : Dat} {v : V} (h : Rep K H v d) : TyX K H v d.ty := by
  cases d with
  | non => cases (show v = V.non from h); exact .base .non
  | bl b => cases (show v = V.bl b from h); exact .base (.bl b)
  | int i => cases (show v = V.int i from h); exact .base (.int i)
  | str x => cases (show v = V.str x from h); exact .base (.str x)
  | lst ds => obtain ⟨a, xs, rfl, e, _⟩ := h; exact .base (.lst e)
  | tup ds => obtain ⟨a, xs, rfl, e, _⟩ := h; exact .base (.tup e)
  | dct ks ds => obtain ⟨a, xs, rfl, e, _⟩ := h; exact .base (.dK e)
  | obj C a => obtain ⟨rfl, o, dx, fs, e⟩ := h; exact .base (.ins e o.cl o.ha o.hn o.ht o.hm)
theorem kit_str {d : Dat} {v : V} (h : Rep K H v d) : PySem.W.kitOne K d.ty (.type "str") = some d.isStr := by
  cases d with
  | obj C a => exact h.2.1.i3
  | _ => first | exact kit_ty (r := true) (by decide +kernel) | exact kit_ty (r := false) (by decide +kernel)
theorem kit_tup {d : Dat} {v : V} (h : Rep K H v d) : PySem.W.kitOne K d.ty (.type "tuple") = some d.isTup := by
  cases d with
  | obj C a => exact h.2.1.i5
  | _ => first | exact kit_ty (r := true) (by decide +kernel) | exact kit_ty (r := false) (by decide +kernel)
theorem kit_int {d : Dat} {v : V} (h : Rep K H v d) : PySem.W.kitOne K d.ty (.type "int") = some d.isInt := by
  cases d with
  | obj C a => exact h.2.1.i1
  | _ => first | exact kit_ty (r := true) (by decide +kernel) | exact kit_ty (r := false) (by decide +kernel)
theorem kit_bl {d : Dat} {v : V} (h : Rep K H v d) : PySem.W.kitOne K d.ty (.type "bool") = some d.isBl := by
  cases d with
  | obj C a => exact h.2.1.i2
  | _ => first | exact kit_ty (r := true) (by decide +kernel) | exact kit_ty (r := false) (by decide +kernel)
theorem kit_seq {d : Dat} {v : V} (h : Rep K H v d) : PySem.W.kitAny K d.ty [.type "list", .type "tuple"] = some d.isSeq := by
  cases d with
  | obj C a => exact kitAny_cons h.2.1.i4 (fun _ => kitAny_cons h.2.1.i5 (fun _ => rfl) fun z => by cases z) fun z => by cases z
  | lst ds => exact kitAny_cons (b := true) (kit_ty (by decide +kernel)) (fun z => by cases z) fun _ => rfl
  | tup ds => exact kitAny_cons (b := false) (kit_ty (by decide +kernel)) (fun _ => kitAny_cons (b := true) (kit_ty (by decide +kernel)) (fun z => by cases z) fun _ => rfl) fun z => by cases z
  | _ => exact kitAny_cons (b := false) (kit_ty (by decide +kernel)) (fun _ => kitAny_cons (b := false) (kit_ty (by decide +kernel)) (fun _ => rfl) fun z => by cases z) fun z => by cases z
end

/-! ### == against a text, against the empty tuple, the empty list -/
def Dat.isThe (t : Str) : Dat → Bool
  | .str x => x == t
  | _ => false
def Dat.noObj : Dat → Bool
  | .obj _ _ => false
  | _ => true
section
open PySem.SeqAt PySem.MeetsSeq
theorem dict_declines_str (l : Addr) (es : Array DictEntry) (n : Nat) (dd : Option Addr) (sl : Array (Option Value)) (b : Str) (u : Tok) :
    Meets (Builtin.«dict.__eq__» ⟨[.ref l, .str b u], []⟩)
      (fun _ R s => s.heap.get? l = some { cls := .type "dict", dict := dd, data := .dict es n, slots := sl } ∧ R (.ok (.ret .notImplemented)) s) :=
  .of_wp fun prog w A R s h => by
    obtain ⟨hp, g, d, tk, os⟩ := s
    obtain ⟨hl, h⟩ := h
    have f1 := F.sub_str_dict
    wp_walk using wpAny_loadPart' hl
    exact ⟨_, rfl, h⟩
theorem str_declines_dict (b : Str) (u : Tok) (l : Addr) (es : Array DictEntry) (n : Nat) (dd : Option Addr) (sl : Array (Option Value)) :
    Meets (Builtin.«str.__eq__» ⟨[.str b u, .ref l], []⟩)
      (fun _ R s => s.heap.get? l = some { cls := .type "dict", dict := dd, data := .dict es n, slots := sl } ∧ R (.ok (.ret .notImplemented)) s) :=
  .of_wp fun prog w A R s h => by
    obtain ⟨hp, g, d, tk, os⟩ := s
    obtain ⟨hl, h⟩ := h
    wp_walk using wpAny_loadPart' hl, wpAny_load hl
    exact ⟨_, rfl, h⟩
theorem rc_dict_str {A : Around} {s : Shared} {l : Addr} {o : Obj} {es : Array DictEntry} {n : Nat} (b : Str) (u : Tok)
    (ho : s.heap.get? l = some o) (hx : o.cls = .type "dict") (hd : o.data = .dict es n) (hu : A.units < cLine) :
    RcAt A s (.ref l) (.str b u) false := fun prog w E Q h => by
  obtain ⟨cls, dd, data, sl⟩ := o
  simp only at hx hd
  subst hx hd
  exact rc_eq_decline_or (k := false) ⟨_, ho, rfl⟩ (typeIs_str s b u) (by decide) F.sub_str_dict F.slot_dict_eq F.slot_str_eq_refl
    (fun _ hq => call_meets F.slot_dict_eq ⟨_, ho, rfl⟩ F.entry_dict_eq (F.args_dict_eq_2 _ _) (dict_declines_str l es n dd sl b u) ⟨ho, hq⟩)
    (fun _ hq => call_meets F.slot_str_eq_refl (typeIs_str s b u) F.entry_str_eq (F.args_str_eq_2 _ _) (str_declines_dict b u l es n dd sl) ⟨ho, hq⟩)
    (fun _ hq => wpAny_of_eq (rfl : isSame (.ref l) (.str b u) = pure false) hq) (.inr hu) h
end
section
variable {X : Cx} {pins : List (Addr × Obj)} {σ : L2.St} {H : Hp} {s : Shared}
open PySem.SeqAt
theorem rc_str (I : Inv X pins σ H s) {A : Around} (hu : A.units < cLine) {d : Dat} {v : V} {u : Value} {t : Str} {tk : Tok} (h : Rep X.K H v d) (hn : d.noObj = true)
    (r : RelV v u) : RcAt A s u (.str t tk) (d.isThe t) := by
  cases d with
  | non =>
    cases (show v = V.non from h)
    cases (show u = _ from r)
    exact .none_str t tk
  | bl b =>
    cases (show v = V.bl b from h)
    cases (show u = _ from r)
    exact .bool_str b t tk
  | int i =>
    cases (show v = V.int i from h)
    obtain ⟨k, rfl⟩ := (show ∃ t, u = Value.int i t from r)
    exact .int_str i k t tk
  | str x =>
    cases (show v = V.str x from h)
    obtain ⟨k, rfl⟩ := (show ∃ t, u = Value.str x t from r)
    exact .str_str x k t tk
  | lst ds =>
    obtain ⟨a, xs, rfl, e, _⟩ := h
    cases (show u = Value.ref a from r)
    obtain ⟨_, its, n, rv, ho⟩ := (show ObjOk X.prog X.w H s.heap a (.lst xs) from I.hok a _ e)
    exact .list_str t tk ⟨_, ho, rfl, _, rfl⟩ hu
  | tup ds =>
    obtain ⟨a, xs, rfl, e, _⟩ := h
    cases (show u = Value.ref a from r)
    obtain ⟨_, its, rv, o, ho, hc, n, hd⟩ := (show ObjOk X.prog X.w H s.heap a (.tup xs) from I.hok a _ e)
    exact .tuple_str (items := its.toArray) t tk ⟨o, ho, hc, n, hd⟩ hu
  | dct ks ds =>
    obtain ⟨a, kvs, rfl, e, _⟩ := h
    cases (show u = Value.ref a from r)
    obtain ⟨_, _, vs, rv, o, es, ep, ho, hx, hd, _⟩ := (show ObjOk X.prog X.w H s.heap a (.dK kvs) from I.hok a _ e)
    exact rc_dict_str t tk ho hx.1 hd hu
  | obj C a => cases (show false = true from hn)
end
section
variable {X : Cx}
def rEqStr (K : PySem.W.Frag) : R2 := fun x y H Q => ∃ d t, Rep K H x d ∧ d.noObj = true ∧ y = .str t ∧ Q (.bl (d.isThe t)) H
theorem op_eq_str (hu : X.A.units + 1 < cLine) : OpR X (compareOp .Eq) (rEqStr X.K) := by
  intro pins s σ H x y v u Q I rx ry h
  obtain ⟨d, t, hd, hn, rfl, q⟩ := h
  obtain ⟨tk, rfl⟩ := (show ∃ t', u = Value.str t t' from ry)
  exact rc_str I (by omega) hd hn rx X.prog X.w _ _ ⟨.bl _, H, I, rfl, q⟩
/-- a tuple against the empty one -/
def rEqTup0 : R2 := fun x y H Q => ∃ a b xs, x = .ref a ∧ H a = some (.tup xs) ∧ y = .ref b ∧ H b = some (.tup []) ∧ Q (.bl xs.isEmpty) H
open PySem.SeqAt in
theorem op_eq_tup0 (hu : X.A.units + 1 < cLine) : OpR X (compareOp .Eq) rEqTup0 := by
  intro pins s σ H x y v u Q I rx ry h
  obtain ⟨a, b, xs, rfl, ea, rfl, eb, q⟩ := h
  cases (show v = Value.ref a from rx)
  cases (show u = Value.ref b from ry)
  obtain ⟨_, its, rv, o, ho, hc, n, hd⟩ := (show ObjOk X.prog X.w H s.heap a (.tup xs) from I.hok a _ ea)
  obtain ⟨_, itb, rb, p, hp, hpc, m, hpd⟩ := (show ObjOk X.prog X.w H s.heap b (.tup []) from I.hok b _ eb)
  cases rb
  have z := RcAt.tuples (A := X.A) (s := s) (e := fun _ => true) (items := its.toArray) (items2 := #[]) ⟨o, ho, hc, n, hd⟩ ⟨p, hp, hpc, m, hpd⟩ (by omega)
    (fun j h1 h2 => absurd h2 (Nat.not_lt_zero j))
  refine z X.prog X.w _ _ ⟨.bl _, H, I, ?_, q⟩
  show Value.bool _ = Value.bool _
  have e : its.length = xs.length := rv.length.symm
  cases xs with
  | nil =>
    have e0 : its = [] := List.eq_nil_of_length_eq_zero e
    subst e0
    rfl
  | cons x xs =>
    cases its with
    | nil => cases e
    | cons i is => simp
/-- a list against the empty one -/
def rEqLst0 (K : PySem.W.Frag) : R2 := fun x y H Q => ∃ a b xs, x = .ref a ∧ H a = some (.lst xs) ∧ y = .ref b ∧ H b = some (.lst []) ∧ Q (.bl xs.isEmpty) H
def rNeLst0 (K : PySem.W.Frag) : R2 := fun x y H Q => ∃ a b xs, x = .ref a ∧ H a = some (.lst xs) ∧ y = .ref b ∧ H b = some (.lst []) ∧ Q (.bl (!xs.isEmpty)) H
open PySem.SeqAt in
theorem op_eq_lst0 (hu : X.A.units + 1 < cLine) : OpR X (compareOp .Eq) (rEqLst0 X.K) := by
  intro pins s σ H x y v u Q I rx ry h
  obtain ⟨a, b, xs, rfl, ea, rfl, eb, q⟩ := h
  cases (show v = Value.ref a from rx)
  cases (show u = Value.ref b from ry)
  obtain ⟨_, its, n, rv, ho⟩ := (show ObjOk X.prog X.w H s.heap a (.lst xs) from I.hok a _ ea)
  obtain ⟨_, itb, m, rb, hp⟩ := (show ObjOk X.prog X.w H s.heap b (.lst []) from I.hok b _ eb)
  cases rb
  cases rv with
  | nil =>
    have z := RcAt.lists (A := X.A) (s := s) (e := fun _ => true) (items := #[]) (items2 := #[]) ⟨_, ho, rfl, n, rfl⟩ ⟨_, hp, rfl, m, rfl⟩ rfl (by omega)
      (fun j h1 h2 => absurd h2 (Nat.not_lt_zero j))
    exact z X.prog X.w _ _ ⟨.bl _, H, I, rfl, q⟩
  | cons r t =>
    have z := RcAt.lists_lengths (A := X.A) (s := s) ⟨_, ho, rfl, n, rfl⟩ ⟨_, hp, rfl, m, rfl⟩ (by simp) (by omega)
    exact z X.prog X.w _ _ ⟨.bl _, H, I, rfl, q⟩
open PySem.SeqAt in
theorem op_ne_lst0 (hu : X.A.units + 1 < cLine) : OpR X (compareOp .NotEq) (rNeLst0 X.K) := by
  intro pins s σ H x y v u Q I rx ry h
  obtain ⟨a, b, xs, rfl, ea, rfl, eb, q⟩ := h
  cases (show v = Value.ref a from rx)
  cases (show u = Value.ref b from ry)
  obtain ⟨_, its, n, rv, ho⟩ := (show ObjOk X.prog X.w H s.heap a (.lst xs) from I.hok a _ ea)
  obtain ⟨_, itb, m, rb, hp⟩ := (show ObjOk X.prog X.w H s.heap b (.lst []) from I.hok b _ eb)
  cases rb
  cases rv with
  | nil =>
    have z := RcNeAt.lists (A := X.A) (s := s) (e := fun _ => true) (items := #[]) (items2 := #[]) ⟨_, ho, rfl, n, rfl⟩ ⟨_, hp, rfl, m, rfl⟩ rfl (by omega)
      (fun j h1 h2 => absurd h2 (Nat.not_lt_zero j))
    exact z X.prog X.w _ _ ⟨.bl _, H, I, rfl, q⟩
  | cons r t =>
    have z := RcNeAt.lists_lengths (A := X.A) (s := s) ⟨_, ho, rfl, n, rfl⟩ ⟨_, hp, rfl, m, rfl⟩ (by simp) (by omega)
    exact z X.prog X.w _ _ ⟨.bl _, H, I, rfl, q⟩
end
end D

set_option Elab.async false
set_option linter.all false
set_option maxRecDepth 100000
set_option maxHeartbeats 4000000
/-! What every law's text uses: draws out of a bag, and small rules. -/
namespace L
open PySem PySem.Spec PyProof.Rows L2 G D

/-- built-in names that the text does not shade -/
structure Bl (mg : Str → Option Value) : Prop where
  lenN : mg "len" = none
  isinstanceN : mg "isinstance" = none
  intN : mg "int" = none
  strN : mg "str" = none
  boolN : mg "bool" = none
  listN : mg "list" = none
  tupleN : mg "tuple" = none
  dictN : mg "dict" = none
  setN : mg "set" = none
  absN : mg "abs" = none
  reprN : mg "repr" = none
  sortedN : mg "sorted" = none
  allN : mg "all" = none
  rangeN : mg "range" = none
  zipN : mg "zip" = none
  enumerateN : mg "enumerate" = none
  minN : mg "min" = none

/-- a def that stands behind the top, with its promise -/
structure Def (P : Program) (w : World) (K : PySem.W.Frag) (mg : Str → Option Value) (base : Heap) (k : Nat) (x : Str) (ps : List Str) (sp : Sp) where
  f : Addr
  fd : FuncData
  ok : Fn P w K mg base CX0 k f fd ps sp
  b : Binds K fd ps []
  m : mg x = some (.ref f)
  kp : PySem.W.keepIn K (.ref f) = true
section
variable {X : Cx} {k : Nat} {x : Str} {ps : List Str} {sp : Sp} {e : Expr} {es : List Expr} {t : TA} {p pos : Pos}
theorem pe_def (D : Def X.prog X.w X.K X.mg X.base k x ps sp) (hc : Calm X.A) (hr : Room k X.A) (ha : PA X (e :: es) t) (hg : Gl X x := by rfl)
    (hdb : (x == ("__debug__" : Str)) = false := by decide)
    (he : starEach (e :: es) X.env = (false, eval e X.env) :: starEach es X.env := by rfl)
    (hpl : (backTo pos (starEach es X.env)).any (·.1) = false := by rfl) :
    PE X (.Call (.Name x p) (e :: es) [] pos) (tCall sp [] E0 t) :=
  pe_fn D.ok hc hr hg D.m D.kp D.b .nil pass0 ha hdb he hpl
end

/-! ### heaps -/
/-- all but what stands at b is as it was -/
def SameBut (b : Addr) (H H' : Hp) : Prop := ∀ x o, x ≠ b → H x = some o → H' x = some o
theorem SameBut.refl (b : Addr) (H : Hp) : SameBut b H H := fun _ _ _ h => h
theorem SameBut.trans {b : Addr} {H H1 H2 : Hp} (a : SameBut b H H1) (c : SameBut b H1 H2) : SameBut b H H2 := fun x o n h => c x o n (a x o n h)
theorem SameBut.same {b : Addr} {H H1 H2 : Hp} (a : SameBut b H H1) (c : Same H1 H2) : SameBut b H H2 := fun x o n h => c x o (a x o n h)
theorem Same.but {b : Addr} {H H1 : Hp} (c : Same H H1) : SameBut b H H1 := fun x o _ h => c x o h
theorem SameBut.upd {b : Addr} {H : Hp} {o : HO} : SameBut b H (upd H b o) := fun x u n h => by rw [upd_ne n]; exact h
theorem same_upd {H : Hp} {p : Addr} {o : HO} (h : H p = none) : Same H (upd H p o) := fun b u e => by rw [upd_ne (ne_of_none e h)]; exact e
/-- the frozen part F, without what stands at b, lies in H -/
theorem SameBut.from {b : Addr} {F H H' : Hp} (s : Same F H) (n : F b = none) (h : SameBut b H H') : Same F H' := fun x o e => h x o (fun z => by rw [z, n] at e; cases e) (s x o e)

theorem pget_list {X : Cx} : PGet X (rIxL X.K) := by
  intro pins s σ H o i ov iv Q I ro ri h
  obtain ⟨p, xs, k, v, rfl, rfl, hq, he, q⟩ := h
  cases ro
  obtain ⟨t, rfl⟩ := ri
  obtain ⟨its, r, pl, hz⟩ := I.list hq
  obtain ⟨j, h1, h2, h3, h4, h5⟩ := atI_get he
  obtain ⟨w, ew, rw'⟩ := r.get h2
  have hl := r.length
  have hn := line63
  have fin : EP X pins σ Q w s := ⟨v, H, I, rw', q⟩
  by_cases h0 : 0 ≤ k
  · have hj : k.toNat = j := by
      rw [seqIndex_of h0 h5] at h1
      exact Option.some.inj h1
    exact getItem_listL pl.isList h0 (by omega) (by rw [hj]; simpa using ew) fin
  · have hj : (k + (its.toArray.size : Int)).toNat = j := by
      rw [seqIndex_neg (by omega) h4] at h1
      rw [List.size_toArray, ← hl]
      exact Option.some.inj h1
    exact wpAny_mono (wpAny_getItem_list_neg (Q := fun r s' => r = w ∧ EP X pins σ Q r s') pl.isList (by omega) (by rw [List.size_toArray] <;> omega) (by omega) (by rw [hj]; simpa using ew) ⟨rfl, fin⟩) (fun _ _ z => z.2) fun _ _ z => z

/-! ### the bag -/
/-- at b stands a bag: its four places, the last one the list at l of numbers from 0 on -/
def BagL (H : Hp) (b l : Addr) : Prop := ∃ (c0 c1 c2 : Int) (ms : List Int), H b = some (.lst [.int c0, .int c1, .int c2, .ref l]) ∧
  H l = some (.lst (ms.map V.int)) ∧ 0 ≤ c0 ∧ 0 ≤ c1 ∧ c1 < 2147483648 ∧ 0 ≤ c2 ∧ ms.length ≤ 63 ∧ ∀ m ∈ ms, 0 ≤ m
def Bag (H : Hp) (b : Addr) : Prop := ∃ l, BagL H b l
/-- it is the same bag, with the same list -/
def BagTo (H H' : Hp) (b : Addr) : Prop := ∃ l, BagL H b l ∧ BagL H' b l
theorem BagL.keep {H H' : Hp} {b l : Addr} (h : BagL H b l) (s : Same H H') : BagL H' b l := by
  obtain ⟨c0, c1, c2, ms, h1, h2, r⟩ := h
  exact ⟨c0, c1, c2, ms, s _ _ h1, s _ _ h2, r⟩
theorem Bag.keep {H H' : Hp} {b : Addr} (h : Bag H b) (s : Same H H') : Bag H' b := let ⟨l, q⟩ := h; ⟨l, q.keep s⟩
theorem BagL.one {H : Hp} {b l l' : Addr} (h : BagL H b l) (h' : BagL H b l') : l = l' := by
  obtain ⟨c0, c1, c2, ms, h1, _⟩ := h
  obtain ⟨d0, d1, d2, ms', g1, _⟩ := h'
  rw [h1] at g1
  have := HO.lst.inj (Option.some.inj g1)
  simp at this
  exact this.2.2.2
theorem BagTo.bag {H H' : Hp} {b : Addr} (h : BagTo H H' b) : Bag H' b := let ⟨l, _, q⟩ := h; ⟨l, q⟩
/-- a draw: from 0 on, below many -/
def spTake : Sp := fun vs H Q _ => ∃ (b : Addr) (m : Int), vs = [.ref b, .int m] ∧ Bag H b ∧ 0 < m ∧ m < 1000000000 ∧
  ∀ (k : Int) (H' : Hp), 0 ≤ k → k < m → SameBut b H H' → BagTo H H' b → Q (.int k) H'
/-- one of a list of things -/
def spOne : Sp := fun vs H Q _ => ∃ (b t : Addr) (xs : List V), vs = [.ref b, .ref t] ∧ Bag H b ∧ H t = some (.lst xs) ∧ t ≠ b ∧ xs ≠ [] ∧ xs.length < 1000000 ∧
  ∀ (v : V) (H' : Hp), v ∈ xs → SameBut b H H' → BagTo H H' b → Q v H'
end L

set_option Elab.async false
set_option linter.all false
set_option maxRecDepth 100000
set_option maxHeartbeats 4000000
/-! Order and sorting of data. -/
namespace S
open PySem PySem.Spec PyProof.Rows L2 G D L
open PySem.W (alike dataLt dataLe AllAlike Sortable sorted_data EachIs)
section
variable {X : Cx}
/-- x < y, of data that can be compared -/
def rCmpA (K : PySem.W.Frag) (g : PyData → PyData → Bool) : R2 := fun x y H Q => ∃ d e, Rep K H x d ∧ Rep K H y e ∧ d.pure = true ∧ e.pure = true ∧ alike d.py e.py = true ∧ d.py ≠ .none ∧ d.py.depth ≤ 40 ∧ Q (.bl (g d.py e.py)) H
theorem op_ltA (hu : X.A.units + 64 < cLine) : OpR X (compareOp .Lt) (rCmpA X.K dataLt) := by
  intro pins s σ H x y v u Q I rx ry h
  obtain ⟨d, e, hd, he, pd, pe, al, hn, dp, q⟩ := h
  obtain ⟨as, ra, _⟩ := Rep.reads I d x v hd pd rx
  obtain ⟨bs, rb, _⟩ := Rep.reads I e y u he pe ry
  exact PySem.W.rcLt_alike _ _ X.A s v u as bs ra rb al hn (by have := Nat.min_le_left d.py.depth e.py.depth; omega) X.prog X.w _ _ ⟨.bl _, H, I, rfl, q⟩
theorem op_geA (hu : X.A.units + 64 < cLine) : OpR X (compareOp .GtE) (rCmpA X.K fun d e => !dataLt d e) := by
  intro pins s σ H x y v u Q I rx ry h
  obtain ⟨d, e, hd, he, pd, pe, al, hn, dp, q⟩ := h
  obtain ⟨as, ra, _⟩ := Rep.reads I d x v hd pd rx
  obtain ⟨bs, rb, _⟩ := Rep.reads I e y u he pe ry
  exact PySem.W.rcGe_alike _ _ X.A s v u as bs ra rb al hn (by have := Nat.min_le_left d.py.depth e.py.depth; omega) X.prog X.w _ _ ⟨.bl _, H, I, rfl, q⟩

theorem each_rep {K : PySem.W.Frag} {H : Hp} : ∀ {ds : List Dat} {xs : List V} {vs : List Value}, RepAll K H xs ds → Vals xs vs → EachIs (fun v d => ∃ x, RelV x v ∧ Rep K H x d) vs ds
  | [], xs, vs, r, q => by
    cases (show xs = [] from r)
    cases q
    exact .nil
  | d :: ds, xs, vs, r, q => by
    obtain ⟨x, t, rfl, a, b⟩ := r
    cases q with
    | cons r1 r2 => exact .cons ⟨x, r1, a⟩ (each_rep b r2)
theorem rep_each {K : PySem.W.Frag} {H : Hp} : ∀ {ds : List Dat} {vs : List Value}, EachIs (fun v d => ∃ x, RelV x v ∧ Rep K H x d) vs ds → ∃ xs, RepAll K H xs ds ∧ Vals xs vs := by
  intro ds vs h
  induction h with
  | nil => exact ⟨[], rfl, .nil⟩
  | cons a _ ih =>
    obtain ⟨x, r, p⟩ := a
    obtain ⟨xs, q, t⟩ := ih
    exact ⟨x :: xs, ⟨x, xs, rfl, p, q⟩, .cons r t⟩
/-- the items in order -/
def sortD (ds : List Dat) : List Dat := ds.mergeSort (dataLe false Dat.py)
/-- what sorting asks of the items -/
structure Ord (ds : List Dat) : Prop where
  pu : ∀ d ∈ ds, d.pure = true
  al : AllAlike (ds.map Dat.py)
  so : Sortable (ds.map Dat.py)
  dp : ∀ d ∈ ds, d.py.depth ≤ 40
def rSorted (K : PySem.W.Frag) : List V → Hp → VK → Prop := fun vs H Q => ∃ a xs ds, ∃ G : Hp, vs = [.ref a] ∧ H a = some (.lst xs) ∧ Same G H ∧ RepAll K G xs ds ∧ Ord ds ∧
  ∀ p ys, H p = none → RepAll K G ys (sortD ds) → ys.length = xs.length → Q (.ref p) (upd H p (.lst ys))
theorem call_sorted (hu : X.A.units + 64 < cLine) : CallR X (.builtin "sorted") (rSorted X.K) := by
  intro pins s σ H vs us Q I r h
  obtain ⟨a, xs, ds, G, rfl, ha, sG, hr, ho, q⟩ := h
  obtain ⟨u, rfl, ru⟩ := vals1 r
  cases (show u = Value.ref a from ru)
  obtain ⟨hz, its, n, rv, hob⟩ := (show ObjOk X.prog X.w H s.heap a (.lst xs) from I.hok a _ ha)
  have e1 := each_rep hr rv
  have e2 : EachIs (fun v d => ∃ as, Reads s.heap v (Dat.py d) as) its ds := by
    have : ∀ {ds : List Dat} {vs : List Value}, (∀ d ∈ ds, d.pure = true) → EachIs (fun v d => ∃ x, RelV x v ∧ Rep X.K G x d) vs ds → EachIs (fun v d => ∃ as, Reads s.heap v (Dat.py d) as) vs ds := by
      intro ds vs hp e
      induction e with
      | nil => exact .nil
      | @cons v d vs ds a _ ih =>
        obtain ⟨x, r, p⟩ := a
        obtain ⟨as, q, _⟩ := Rep.reads I d x v (Rep.mono sG d p) (hp d List.mem_cons_self) r
        exact .cons ⟨as, q⟩ (ih fun y hy => hp y (List.mem_cons_of_mem _ hy))
    exact this ho.pu e1
  have hl : xs.length = ds.length := hr.length
  refine sorted_data (enc := Dat.py) ⟨_, hob, rfl, n, rfl⟩ e1 e2 ho.al ho.so (by rw [← hl]; exact hz) (fun d hd => ?_) fun out ol eo => ?_
  · have := ho.dp d hd
    omega
  · obtain ⟨ys, ry, vy⟩ := rep_each eo
    have yl : ys.length = xs.length := by rw [vy.length, ol, hl]
    obtain ⟨ep, he⟩ := sortedAll_at s.heap its out.toArray
    refine ⟨.ref _, upd H (s.heap.objs.size + 1) (.lst ys), I.laid (t' := s.toks) (fun _ _ => sortedAll_old) (Nat.le_succ _) ?_, rfl, ?_⟩
    · exact ⟨by rw [yl]; exact hz, out, ep, vy, he⟩
    · exact q _ ys (I.hok.fresh (Nat.le_succ _)) ry yl
end
end S

set_option Elab.async false
set_option linter.all false
set_option maxRecDepth 100000
set_option maxHeartbeats 4000000
/-! Comprehensions whose turns change nothing that stands, or a bag alone. -/
namespace C
open PySem PySem.Spec PyProof.Rows L2 G D L S
theorem take_succ_map {α β : Type} {xs : List α} {f : α → Option β} {i : Nat} {a : α} (h : xs[i]? = some a) :
    (xs.take (i + 1)).filterMap f = (xs.take i).filterMap f ++ (match f a with | some y => [y] | none => []) := by
  have e : xs.take (i + 1) = xs.take i ++ [a] := by
    rw [List.take_add_one, h]; rfl
  rw [e, List.filterMap_append]
  congr 1
  cases hf : f a <;> simp [hf]
section
variable {J : It} {n : Nat} {G : Hp → Prop} {Y : Nat → Hp → V → Hp → Prop}
/-- the end of a comprehension over w: nothing that stands changes; a place gives f a, or nothing -/
theorem lc_sel {α : Type} (w : Walk J n G Y) (xs : List α) (f : α → Option V) {g : TG} {tt : TT} {te : TE} {vs : List Nat} {σ : L2.St} {H1 : Hp} {D : Addr}
    {Qd : Hp → Prop} (hn : xs.length = n) (hz : n < sizeLine) (hD : H1 D = none) (hG : ∀ H, Same H1 H → G H)
    (turn : ∀ (i : Nat) (a : α) (x : V) (H H' : Hp) (Kt : V → Hp → Prop) (Kf : Hp → Prop), xs[i]? = some a → Same H1 H → Y i H x H' →
      (∀ y H4, Same H H4 → f a = some y → Kt y H4) → (∀ H3, Same H H3 → f a = none → Kf H3) →
      g x (wipe σ vs) H' fun σ2 H2 => wipe σ2 vs = wipe σ vs ∧ tt σ2 H2 fun b H3 => if b = true then te σ2 H3 Kt else Kf H3)
    (done : ∀ H, Same H1 H → H D = some (.lst (xs.filterMap f)) → Qd H) :
    ∃ W : Nat → Nat → Hp → Prop, (∃ m, W 0 m (upd H1 D (.lst []))) ∧ ∀ i m H, W i m H →
      (J.stop i H ∧ Qd H) ∨ (J.go i H ∧ ∃ Nx : Hp → Prop, (∀ H', Nx H' → ∃ m', m' < m ∧ W (i + 1) m' H') ∧ ∀ x H', J.yld i H x H' →
        g x (wipe σ vs) H' fun σ2 H2 => wipe σ2 vs = wipe σ vs ∧ tt σ2 H2 fun b H3 =>
          if b = true then te σ2 H3 fun y H4 => ∃ acc, H4 D = some (.lst acc) ∧ acc.length < sizeLine ∧ Nx (upd H4 D (.lst (acc ++ [y]))) else Nx H3) := by
  refine lc_it w (fun i H => Same H1 H ∧ H D = some (.lst ((xs.take i).filterMap f))) ⟨same_upd hD, upd_same⟩ (fun i H _ h => hG H h.1) ?_ ?_
  · rintro i x H H' hi ⟨hs, hd⟩ hy
    have hx : xs[i]? = some xs[i] := List.getElem?_eq_getElem (by omega)
    have hl : ((xs.take i).filterMap f).length < sizeLine := by
      have h1 := List.length_filterMap_le f (xs.take i)
      have h2 := List.length_take_le i xs
      omega
    refine turn i _ x H H' _ _ hx hs hy (fun y H4 h4 e => ?_) (fun H3 h3 e => ?_)
    · refine ⟨_, h4 _ _ hd, hl, ?_, ?_⟩
      · intro b o eb
        rw [upd_ne (ne_of_none eb hD)]
        exact h4 _ _ (hs _ _ eb)
      · rw [upd_same, take_succ_map hx, e]
    · refine ⟨hs.trans h3, ?_⟩
      rw [h3 _ _ hd, take_succ_map hx, e, List.append_nil]
  · rintro H ⟨hs, hd⟩
    rw [← hn, List.take_length] at hd
    exact done H hs hd
/-- the same without a test -/
theorem lc_map {α : Type} (w : Walk J n G Y) (xs : List α) (f : α → V) {g : TG} {te : TE} {vs : List Nat} {σ : L2.St} {H1 : Hp} {D : Addr}
    {Qd : Hp → Prop} (hn : xs.length = n) (hz : n < sizeLine) (hD : H1 D = none) (hG : ∀ H, Same H1 H → G H)
    (turn : ∀ (i : Nat) (a : α) (x : V) (H H' : Hp) (Kt : V → Hp → Prop), xs[i]? = some a → Same H1 H → Y i H x H' →
      (∀ H4, Same H H4 → Kt (f a) H4) →
      g x (wipe σ vs) H' fun σ2 H2 => wipe σ2 vs = wipe σ vs ∧ te σ2 H2 Kt)
    (done : ∀ H, Same H1 H → H D = some (.lst (xs.map f)) → Qd H) :
    ∃ W : Nat → Nat → Hp → Prop, (∃ m, W 0 m (upd H1 D (.lst []))) ∧ ∀ i m H, W i m H →
      (J.stop i H ∧ Qd H) ∨ (J.go i H ∧ ∃ Nx : Hp → Prop, (∀ H', Nx H' → ∃ m', m' < m ∧ W (i + 1) m' H') ∧ ∀ x H', J.yld i H x H' →
        g x (wipe σ vs) H' fun σ2 H2 => wipe σ2 vs = wipe σ vs ∧ tYes σ2 H2 fun b H3 =>
          if b = true then te σ2 H3 fun y H4 => ∃ acc, H4 D = some (.lst acc) ∧ acc.length < sizeLine ∧ Nx (upd H4 D (.lst (acc ++ [y]))) else Nx H3) := by
  refine lc_it w (fun i H => Same H1 H ∧ H D = some (.lst ((xs.take i).map f))) ⟨same_upd hD, upd_same⟩ (fun i H _ h => hG H h.1) ?_ ?_
  · rintro i x H H' hi ⟨hs, hd⟩ hy
    have hx : xs[i]? = some xs[i] := List.getElem?_eq_getElem (by omega)
    have hl : ((xs.take i).map f).length < sizeLine := by
      have h2 := List.length_take_le i xs
      rw [List.length_map]
      omega
    have key := turn i _ x H H' (fun y H4 => ∃ acc, H4 D = some (.lst acc) ∧ acc.length < sizeLine ∧ Same H1 (upd H4 D (.lst (acc ++ [y]))) ∧ (upd H4 D (.lst (acc ++ [y]))) D = some (.lst ((xs.take (i + 1)).map f))) hx hs hy (fun H4 h4 => by
      refine ⟨_, h4 _ _ hd, hl, ?_, ?_⟩
      · intro b o eb
        rw [upd_ne (ne_of_none eb hD)]
        exact h4 _ _ (hs _ _ eb)
      · rw [upd_same, List.take_add_one, hx, List.map_append]; rfl)
    exact key
  · rintro H ⟨hs, hd⟩
    rw [← hn, List.take_length] at hd
    exact done H hs hd
end
end C

set_option Elab.async false
set_option linter.all false
set_option maxRecDepth 100000
set_option maxHeartbeats 8000000
/-! set(..) of a list or a tuple of texts: how many there are. -/
namespace Sx
open PySem PySem.Spec PyProof.Rows L2 G D L
/-- how many different ones stand in the first i -/
def cnt {κ : Type} [DecidableEq κ] (ks : List κ) : Nat → Nat
  | 0 => 0
  | i + 1 => match ks[i]? with
    | some k => if k ∈ ks.take i then cnt ks i else cnt ks i + 1
    | none => cnt ks i
theorem cnt_le {κ : Type} [DecidableEq κ] (ks : List κ) : ∀ i, cnt ks i ≤ i
  | 0 => Nat.le_refl _
  | i + 1 => by
    have := cnt_le ks i
    unfold cnt
    split
    · split <;> omega
    · omega
theorem cnt_all {κ : Type} [DecidableEq κ] (ks : List κ) : ∀ i, i ≤ ks.length → (cnt ks i = i ↔ (ks.take i).Nodup)
  | 0, _ => by simp [cnt]
  | i + 1, h => by
    have hk : ks[i]? = some ks[i] := List.getElem?_eq_getElem (by omega)
    have ih := cnt_all ks i (by omega)
    have le := cnt_le ks i
    have e : ks.take (i + 1) = ks.take i ++ [ks[i]] := by rw [List.take_add_one, hk]; rfl
    rw [e, List.nodup_append]
    unfold cnt
    rw [hk]
    simp only
    by_cases hm : ks[i] ∈ ks.take i
    · rw [if_pos hm]
      constructor
      · intro z; omega
      · rintro ⟨_, _, z⟩
        exact absurd rfl (z _ hm _ (List.mem_singleton.mpr rfl))
    · rw [if_neg hm]
      constructor
      · intro z
        refine ⟨ih.mp (by omega), by simp, ?_⟩
        rintro a ha b hb rfl
        rw [List.mem_singleton] at hb
        subst hb
        exact hm ha
      · rintro ⟨z, _, _⟩
        rw [ih.mpr z]
section
variable {prog : Program} {w : World} {A : Around} {E : Value → Shared → Prop} {s : Shared} {κ : Type} [DecidableEq κ] {knd : KeyKind prog w κ}
  {I : Addr} {fp wr : List Addr} {Gg : Array GenState → Array GenState → Prop} {n : Nat} {P : Nat → Value → Prop} {St : Nat → Shared → Prop}
/-- the members after the first i -/
abbrev mem (ks : List κ) (i : Nat) : κ → Bool := fun k => decide (k ∈ ks.take i)
theorem set_loop {R : Result → Shared → Prop} (W : WalksS prog w A.in1 I fp wr Gg n P St) (a : Addr) (ha : a ∉ fp) (ks : List κ) (hl : ks.length = n) (hn : n < 4000)
    (hv : ∀ i v, P i v → ∃ k, ks[i]? = some k ∧ knd.is k v = true ∧ v.scannable = true) :
    ∀ (m i : Nat) (s : Shared), n - i = m → i ≤ n → St i s → s.heap.SetOf knd a (mem ks i) (cnt ks i) →
      (∀ s', Moved (a :: wr) Gg s s' → s'.heap.SetOf knd a (mem ks n) (cnt ks n) → R (.ok (.ret .none)) s') →
      codeAny (model prog w) A (.builtin "set.update.loop" ⟨[.ref a, .ref I], []⟩) R s := by
  have haw : a ∉ wr := fun h => ha (W.sub _ h)
  have more : ∀ b ∈ wr, b ∈ a :: wr := fun b hb => List.mem_cons_of_mem _ hb
  intro m
  induction m with
  | zero =>
    intro i s hm hi st hS fin
    obtain rfl : i = n := by omega
    refine codeAny_builtin F.entry_set_update_loop ?_
    rw [Around.under_plainId F.plain_set_update_loop _]
    show wpAny _ A.in1 (pyNext (.ref I) >>= _) _ _ s
    refine wpAny_bind (W.done s _ _ st fun s' mv => ?_)
    show wpAny _ A.in1 (ret Value.none) _ _ s'
    refine wpAny_pure (fin s' (mv.mono more) ?_)
    obtain ⟨o, es, ep, t, ho, r⟩ := hS
    exact ⟨o, es, ep, t, mv.heap a _ haw ho, r⟩
  | succ m ih =>
    intro i s hm hi st hS fin
    have hlt : i < n := by omega
    refine codeAny_builtin F.entry_set_update_loop ?_
    rw [Around.under_plainId F.plain_set_update_loop _]
    show wpAny _ A.in1 (pyNext (.ref I) >>= _) _ _ s
    refine wpAny_bind (W.item i s _ _ hlt st fun v s' hp st' mv => ?_)
    obtain ⟨k, hk, his, hsc⟩ := hv i v hp
    have hS' : s'.heap.SetOf knd a (mem ks i) (cnt ks i) := by
      obtain ⟨o, es, ep, t, ho, r⟩ := hS
      exact ⟨o, es, ep, t, mv.heap a _ haw ho, r⟩
    have le := cnt_le ks i
    show wpAny _ A.in1 (holding [v] (setAdd a v) >>= _) _ _ s'
    refine wpAny_bind (wpAny_holding ?_)
    unfold setAdd
    refine wpAny_holding (wpAny_bind (knd.pyHash his ?_))
    have room : cnt ks i + 1 < scanBound := by
      unfold scanBound
      omega
    refine wpAny_setAddHashed_of (knd := knd) (s := { s' with toks := s'.toks + 1 }) his hsc hS' room fun h' sb hS3 => ?_
    have mm : ∀ k', (mem ks i k' || decide (k' = k)) = mem ks (i + 1) k' := by
      intro k'
      show (decide (k' ∈ ks.take i) || decide (k' = k)) = decide (k' ∈ ks.take (i + 1))
      rw [List.take_add_one, hk]
      by_cases q : k' ∈ ks.take i <;> by_cases q2 : k' = k <;> simp [q, q2]
    have cc : (if mem ks i k = true then cnt ks i else cnt ks i + 1) = cnt ks (i + 1) := by
      show _ = (match ks[i]? with | some k => if k ∈ ks.take i then cnt ks i else cnt ks i + 1 | none => cnt ks i)
      rw [hk]
      by_cases q : k ∈ ks.take i <;> simp [q]
    refine wpAny_pure ⟨plainId_quiet F.plain_set_update_loop _, ?_⟩
    refine ih (i + 1) _ (by omega) hlt (W.frame _ s' _ _ st' (Nat.le_succ _) fun b hb o e => ?_) (SetOf_congr hS3 mm cc) fun s3 mv3 hS4 => ?_
    · rw [sb.2 b fun q : b = a => ha (by rw [← q]; exact hb)]
      exact e
    · refine fin s3 (Moved.trans W.gtrans ((mv.mono more).then_heap (Nat.le_succ _) fun b o hb e => ?_) mv3) hS4
      rw [sb.2 b fun q : b = a => hb (by rw [q]; exact List.mem_cons_self)]
      exact e
end

section
variable {prog : Program} {w : World} {A : Around} {E : Value → Shared → Prop} {s : Shared} {κ : Type} [DecidableEq κ] {knd : KeyKind prog w κ}
/-- an empty set that has just been made -/
abbrev freshSet (led : Bool) : Obj := { cls := .type "set", dict := none, data := .set #[] 0 (.fresh 0 0 led) }
theorem set_of_list {l : Addr} {items : Array Value} {ks : List κ} {Q : Value → Shared → Prop} (hh : A.handled = none) (hl : s.heap.IsList l items)
    (hk : ks.length = items.size) (hn : items.size < 4000) (hv : ∀ (i : Nat) (v : Value), items[i]? = some v → ∃ k, ks[i]? = some k ∧ knd.is k v = true ∧ v.scannable = true)
    (fin : ∀ (h' : Heap) (tk : Nat), h'.SetOf knd s.heap.objs.size (mem ks items.size) (cnt ks items.size) →
      (∀ b o, b < s.heap.objs.size → s.heap.get? b = some o → h'.get? b = some o) → Q (.ref s.heap.objs.size) { s with heap := h', toks := tk }) :
    wpAny (model prog w) A (call (.type "set") [.ref l]) Q E s := by
  obtain ⟨c, tl, hmro⟩ := F.called_set.mro
  have q1 := F.called_set.made
  have q2 := F.called_set.sub
  refine wpAny_call (codeAny_of_tree ?_)
  show wpAny _ _ (callAny (.type "set") _) _ _ _
  have quiet : (Code.builtin "type.__call__" ⟨Value.type "set" :: [Value.ref l], []⟩).quiet = true :=
    Code.quiet_builtin _ (by decide +kernel)
  refine wpAny_pure ⟨quiet, codeAny_builtin F.entry_type_call ?_⟩
  rw [Around.under_plain (weight_type_call_type "set" [.ref l] []) rfl]
  have q3 := F.called_set.notType
  have q4 := F.called_set.canCreate
  have q5 := F.typeCall_set_1 (.ref l)
  repeat (any_goals (first | assumption | wp_step))
  let made := fun (obj : Value) (t : Shared) => ∃ led : Bool, obj = .ref s.heap.objs.size ∧ t = { s with heap := s.heap.push (freshSet led) }
  refine codeAny_mono (code_set_new_1 (.ref l) (E := E) (Q₁ := made) fun led => ⟨led, rfl, rfl⟩) ?_
  rintro (e | fl) t hr
  · exact hr
  cases fl with
  | ret obj =>
    obtain ⟨led, rfl, rfl⟩ := hr
    have hS : (s.heap.push (freshSet led)).get? s.heap.objs.size = some (freshSet led) := Heap.get?_push_size _ rfl
    have hT : Shared.TypeIs { s with heap := s.heap.push (freshSet led) } (.ref s.heap.objs.size) "set" := ⟨_, hS, rfl⟩
    have q6 := F.called_set.init.lookup
    have q7 := F.called_set.init.bind (.ref s.heap.objs.size)
    repeat (any_goals (first | assumption | wp_step))
    let filled := fun (r : Value) (t : Shared) => r = Value.none ∧ ∃ h' tk, t = { s with heap := h', toks := tk } ∧
      h'.SetOf knd s.heap.objs.size (mem ks items.size) (cnt ks items.size) ∧
      ∀ b o, b < s.heap.objs.size → s.heap.get? b = some o → h'.get? b = some o
    refine codeAny_mono (codeAny_call_builtin (R := wants filled E) F.called_set.init.plain F.entry_set_init (check_set_init_1 hT ?_)) ?_
    · obtain ⟨⟨cls, dd, dat, sl⟩, ho, hc, nl, hd⟩ := hl
      simp only at hc hd
      subst hc hd
      have ho' : (s.heap.push (freshSet led)).get? l = some { cls := .type "list", dict := dd, data := .seq items nl, slots := sl } :=
        Heap.get?_push_of_some _ ho
      have q8 := F.sub_list_set
      have q9 := F.sub_list_frozenset
      have q10 : (Value.type "list" == Value.type "dict") = false := by decide
      have il : (s.heap.push (freshSet led)).IsList l items := ⟨_, ho', rfl, nl, rfl⟩
      unfold Builtin.«set.__init__» noKeywords Builtin.Frozenset.updateFrom
      generalize hPI : pyIter = PI
      wp_walk
      subst hPI
      refine wpAny_pyIter_list il ?_
      refine wpAny_bind (wpAny_runValue ?_)
      have lS : l < s.heap.objs.size := Heap.lt_size ho
      have h3 : A.in1.in1.in1.handled = none := by simp [hh]
      have nI : l ≠ (s.heap.push (freshSet led)).objs.size := by
        rw [Heap.size_push]
        exact Nat.ne_of_lt (Nat.lt_succ_of_lt lS)
      have nS : s.heap.objs.size ∉ [(s.heap.push (freshSet led)).objs.size, l] := by
        rw [Heap.size_push]
        simp only [List.mem_cons, List.mem_singleton, List.not_mem_nil, or_false, not_or]
        exact ⟨Nat.ne_of_lt (Nat.lt_succ_self _), Nat.ne_of_gt lS⟩
      refine set_loop ((Walks.list h3 _ l nI items).toS) s.heap.objs.size nS ks hk hn hv (items.size - 0) 0 _ (by omega) (Nat.zero_le _)
        ⟨⟨_, Heap.get?_push_size _ rfl, rfl, rfl⟩, il.push _⟩ ?start ?stop
      case start =>
        have g : ((s.heap.push (freshSet led)).push { cls := .type "list_iterator", data := .fields #[.ref l, .int 0 0] }).get? s.heap.objs.size = some (freshSet led) :=
          Heap.get?_push_of_some _ hS
        have z := (setObjOf_fresh (knd := knd) led).setOf g (by unfold scanBound; omega)
        exact SetOf_congr z (fun k => by simp [mem]) rfl
      case stop =>
        rintro ⟨h', g', d', tk', os'⟩ mv hS'
        have eg : g' = s.gens := mv.gens
        have ed : d' = s.drawn := mv.drawn
        have eo : os' = s.os := mv.os
        subst eg ed eo
        show wpAny _ _ _ _ _ _
        refine wpAny_pure ?_
        show wpAny _ _ (ret Value.none) _ _ _
        refine wpAny_pure ⟨rfl, h', tk', rfl, hS', fun b o hb e => ?_⟩
        have n1 : b ≠ s.heap.objs.size := Nat.ne_of_lt hb
        have n2 : b ≠ (s.heap.push (freshSet led)).objs.size := by
          rw [Heap.size_push]
          exact Nat.ne_of_lt (Nat.lt_succ_of_lt hb)
        refine mv.heap b o ?_ (Heap.get?_push_of_some _ (Heap.get?_push_of_some _ e))
        simp only [List.mem_cons, List.mem_singleton, List.not_mem_nil, or_false, not_or]
        exact ⟨n1, n2⟩
    · rintro (e | fl2) t2 hr2
      · exact hr2
      cases fl2 with
      | ret r =>
        obtain ⟨rfl, h', tk, rfl, hS', hk'⟩ := hr2
        repeat (any_goals (first | assumption | wp_step))
        exact fin _ _ hS' hk'
      | _ => exact hr2.elim
  | _ => exact hr.elim
end

end Sx

set_option Elab.async false
set_option linter.all false
set_option maxRecDepth 100000
set_option maxHeartbeats 8000000
/-! set(..) of a tuple; len(set(..)). -/
namespace Sx
open PySem PySem.Spec PyProof.Rows L2 G D L

section
variable {prog : Program} {w : World} {A : Around} {E : Value → Shared → Prop} {s : Shared} {κ : Type} [DecidableEq κ] {knd : KeyKind prog w κ}
theorem set_of_tuple {l : Addr} {items : Array Value} {ks : List κ} {Q : Value → Shared → Prop} (hh : A.handled = none) (hl : s.heap.IsTuple l items)
    (hk : ks.length = items.size) (hn : items.size < 4000) (hv : ∀ (i : Nat) (v : Value), items[i]? = some v → ∃ k, ks[i]? = some k ∧ knd.is k v = true ∧ v.scannable = true)
    (fin : ∀ (h' : Heap) (tk : Nat), h'.SetOf knd s.heap.objs.size (mem ks items.size) (cnt ks items.size) →
      (∀ b o, b < s.heap.objs.size → s.heap.get? b = some o → h'.get? b = some o) → Q (.ref s.heap.objs.size) { s with heap := h', toks := tk }) :
    wpAny (model prog w) A (call (.type "set") [.ref l]) Q E s := by
  obtain ⟨c, tl, hmro⟩ := F.called_set.mro
  have q1 := F.called_set.made
  have q2 := F.called_set.sub
  refine wpAny_call (codeAny_of_tree ?_)
  show wpAny _ _ (callAny (.type "set") _) _ _ _
  have quiet : (Code.builtin "type.__call__" ⟨Value.type "set" :: [Value.ref l], []⟩).quiet = true :=
    Code.quiet_builtin _ (by decide +kernel)
  refine wpAny_pure ⟨quiet, codeAny_builtin F.entry_type_call ?_⟩
  rw [Around.under_plain (weight_type_call_type "set" [.ref l] []) rfl]
  have q3 := F.called_set.notType
  have q4 := F.called_set.canCreate
  have q5 := F.typeCall_set_1 (.ref l)
  repeat (any_goals (first | assumption | wp_step))
  let made := fun (obj : Value) (t : Shared) => ∃ led : Bool, obj = .ref s.heap.objs.size ∧ t = { s with heap := s.heap.push (freshSet led) }
  refine codeAny_mono (code_set_new_1 (.ref l) (E := E) (Q₁ := made) fun led => ⟨led, rfl, rfl⟩) ?_
  rintro (e | fl) t hr
  · exact hr
  cases fl with
  | ret obj =>
    obtain ⟨led, rfl, rfl⟩ := hr
    have hS : (s.heap.push (freshSet led)).get? s.heap.objs.size = some (freshSet led) := Heap.get?_push_size _ rfl
    have hT : Shared.TypeIs { s with heap := s.heap.push (freshSet led) } (.ref s.heap.objs.size) "set" := ⟨_, hS, rfl⟩
    have q6 := F.called_set.init.lookup
    have q7 := F.called_set.init.bind (.ref s.heap.objs.size)
    repeat (any_goals (first | assumption | wp_step))
    let filled := fun (r : Value) (t : Shared) => r = Value.none ∧ ∃ h' tk, t = { s with heap := h', toks := tk } ∧
      h'.SetOf knd s.heap.objs.size (mem ks items.size) (cnt ks items.size) ∧
      ∀ b o, b < s.heap.objs.size → s.heap.get? b = some o → h'.get? b = some o
    refine codeAny_mono (codeAny_call_builtin (R := wants filled E) F.called_set.init.plain F.entry_set_init (check_set_init_1 hT ?_)) ?_
    · obtain ⟨⟨cls, dd, dat, sl⟩, ho, hc, nl, hd⟩ := hl
      simp only at hc hd
      subst hc hd
      have ho' : (s.heap.push (freshSet led)).get? l = some { cls := .type "tuple", dict := dd, data := .seq items nl, slots := sl } :=
        Heap.get?_push_of_some _ ho
      have q8 := F.sub_tuple_set
      have q9 := F.sub_tuple_frozenset
      have q10 : (Value.type "tuple" == Value.type "dict") = false := by decide
      have il : (s.heap.push (freshSet led)).IsTuple l items := ⟨_, ho', rfl, nl, rfl⟩
      unfold Builtin.«set.__init__» noKeywords Builtin.Frozenset.updateFrom
      generalize hPI : pyIter = PI
      wp_walk
      subst hPI
      refine wpAny_pyIter_tuple il ?_
      refine wpAny_bind (wpAny_runValue ?_)
      have lS : l < s.heap.objs.size := Heap.lt_size ho
      have h3 : A.in1.in1.in1.handled = none := by simp [hh]
      have nI : l ≠ (s.heap.push (freshSet led)).objs.size := by
        rw [Heap.size_push]
        exact Nat.ne_of_lt (Nat.lt_succ_of_lt lS)
      have nS : s.heap.objs.size ∉ [(s.heap.push (freshSet led)).objs.size, l] := by
        rw [Heap.size_push]
        simp only [List.mem_cons, List.mem_singleton, List.not_mem_nil, or_false, not_or]
        exact ⟨Nat.ne_of_lt (Nat.lt_succ_self _), Nat.ne_of_gt lS⟩
      refine set_loop ((Walks.tuple h3 _ l nI items).toS) s.heap.objs.size nS ks hk hn hv (items.size - 0) 0 _ (by omega) (Nat.zero_le _)
        ⟨⟨_, Heap.get?_push_size _ rfl, rfl, rfl⟩, il.push _⟩ ?start ?stop
      case start =>
        have g : ((s.heap.push (freshSet led)).push { cls := .type "tuple_iterator", data := .fields #[.ref l, .int 0 0] }).get? s.heap.objs.size = some (freshSet led) :=
          Heap.get?_push_of_some _ hS
        have z := (setObjOf_fresh (knd := knd) led).setOf g (by unfold scanBound; omega)
        exact SetOf_congr z (fun k => by simp [mem]) rfl
      case stop =>
        rintro ⟨h', g', d', tk', os'⟩ mv hS'
        have eg : g' = s.gens := mv.gens
        have ed : d' = s.drawn := mv.drawn
        have eo : os' = s.os := mv.os
        subst eg ed eo
        show wpAny _ _ _ _ _ _
        refine wpAny_pure ?_
        show wpAny _ _ (ret Value.none) _ _ _
        refine wpAny_pure ⟨rfl, h', tk', rfl, hS', fun b o hb e => ?_⟩
        have n1 : b ≠ s.heap.objs.size := Nat.ne_of_lt hb
        have n2 : b ≠ (s.heap.push (freshSet led)).objs.size := by
          rw [Heap.size_push]
          exact Nat.ne_of_lt (Nat.lt_succ_of_lt hb)
        refine mv.heap b o ?_ (Heap.get?_push_of_some _ (Heap.get?_push_of_some _ e))
        simp only [List.mem_cons, List.mem_singleton, List.not_mem_nil, or_false, not_or]
        exact ⟨n1, n2⟩
    · rintro (e | fl2) t2 hr2
      · exact hr2
      cases fl2 with
      | ret r =>
        obtain ⟨rfl, h', tk, rfl, hS', hk'⟩ := hr2
        repeat (any_goals (first | assumption | wp_step))
        exact fin _ _ hS' hk'
      | _ => exact hr2.elim
  | _ => exact hr.elim
end

section
variable {X : Cx}
/-- len(set(a)), a a list or a tuple of texts -/
def tLenSetS (ta : TE) : TE := fun σ H Q => ta σ H fun x H1 => ∃ (l : Addr) (ks : List Str), x = .ref l ∧
  (H1 l = some (.lst (ks.map V.str)) ∨ H1 l = some (.tup (ks.map V.str))) ∧ ks.length < 4000 ∧ Q (.int (cnt ks ks.length : Nat)) H1
theorem val_strs : ∀ {ks : List Str} {its : List Value}, Vals (ks.map V.str) its → ∀ (i : Nat) (v : Value), its[i]? = some v → ∃ t, v = .str (ks.getD i Str.empty) t ∧ i < ks.length
  | [], _, .nil, i, v, e => by simp at e
  | x :: ks, _, .cons r t, 0, v, e => by
    obtain ⟨tk, rfl⟩ := (show ∃ t, _ = Value.str x t from r)
    simp at e
    subst e
    exact ⟨tk, by simp, by simp⟩
  | x :: ks, _, .cons r t, i + 1, v, e => by
    obtain ⟨tk, h1, h2⟩ := val_strs t i v (by simpa using e)
    exact ⟨tk, by simpa using h1, by simpa using h2⟩
theorem pe_lenSetS {a : Expr} {ta : TE} {p p2 q pos : Pos} (hc : X.calm = true) (hg : Gl X "len") (hm : X.mg "len" = none) (hg2 : Gl X "set")
    (hm2 : X.mg "set" = none) (ha : PE X a ta) (na : starEach [a] X.env = (false, eval a X.env) :: starEach [] X.env := by rfl) :
    PE X (.Call (.Name "len" p) [.Call (.Name "set" p2) [a] [] q] [] pos) (tLenSetS ta) := by
  constructor
  intro pins s σ H Q I h
  refine Call_ (ld_blt I hg hm boot_len ?_)
  refine callWith_builtin1 (args_cons ?_ rfl) rfl rfl
  refine Call_ (ld_blt I hg2 hm2 boot_set ?_)
  have hA := ha.run pins s σ H _ I h
  refine callWith_type1 (args_cons (thn hA ?_) na) na rfl
  rintro v s1 ⟨x, H1, I1, r1, l, ks, rfl, hl, hn, k⟩
  cases (show v = Value.ref l from r1)
  refine args_nil ?_
  have val : ∀ (its : List Value), Vals (ks.map V.str) its → ∀ (i : Nat) (v : Value), its.toArray[i]? = some v → ∃ k, ks[i]? = some k ∧ (strKind X.prog X.w).is k v = true ∧ v.scannable = true := by
    intro its r i v e
    obtain ⟨t, e1, hi⟩ := val_strs r i v (by simpa using e)
    subst e1
    refine ⟨ks.getD i Str.empty, by rw [List.getD_eq_getElem?_getD, List.getElem?_eq_getElem hi]; rfl, strKind_is _ _ _ _, rfl⟩
  have fin : ∀ (its : List Value), Vals (ks.map V.str) its → ∀ (h' : Heap) (tk : Nat),
      h'.SetOf (strKind X.prog X.w) s1.heap.objs.size (mem ks its.toArray.size) (cnt ks its.toArray.size) →
      (∀ b o, b < s1.heap.objs.size → s1.heap.get? b = some o → h'.get? b = some o) →
      wpAny (model X.prog X.w) X.A (spliced (backTo pos (starEach [] X.env)))
        (fun vs t => wpAny (model X.prog X.w) X.A (call (.builtin "len") (Value.ref s1.heap.objs.size :: vs)) (EP X pins σ Q) X.xe t) X.xe
        { s1 with heap := h', toks := tk } := by
    intro its r h' tk hS hk
    refine args_nil ?_
    have hl : its.toArray.size = ks.length := by rw [List.size_toArray, ← r.length, List.length_map]
    rw [hl] at hS
    obtain ⟨o, es, ep, t, ho, hex, hd, _, _, _, hf, hsz⟩ := hS
    have I2 : Inv X pins σ H1 { s1 with heap := h', toks := tk } := I1.kept fun b o e => hk b o (Heap.lt_size e) e
    have le := cnt_le ks ks.length
    refine call_len_set ho hex hd hf (by rw [hsz]; omega) ⟨.int (cnt ks ks.length : Nat), H1, I2.tok _, ⟨_, by rw [hsz]⟩, k⟩
  rcases hl with hl | hl
  · obtain ⟨_, its, n, r, ho⟩ := (show ObjOk X.prog X.w H1 s1.heap l (.lst (ks.map V.str)) from I1.hok l _ hl)
    have len : ks.length = its.toArray.size := by rw [List.size_toArray, ← r.length, List.length_map]
    exact set_of_list (knd := strKind X.prog X.w) (I1.ok.hd hc) ⟨_, ho, rfl, n, rfl⟩ len (by omega) (val its r) (fin its r)
  · obtain ⟨_, its, r, o, ho, hcl, n, hd⟩ := (show ObjOk X.prog X.w H1 s1.heap l (.tup (ks.map V.str)) from I1.hok l _ hl)
    have len : ks.length = its.toArray.size := by rw [List.size_toArray, ← r.length, List.length_map]
    exact set_of_tuple (knd := strKind X.prog X.w) (I1.ok.hd hc) ⟨o, ho, hcl, n, hd⟩ len (by omega) (val its r) (fin its r)
end
end Sx

set_option Elab.async false
set_option linter.all false
set_option maxRecDepth 100000
set_option maxHeartbeats 4000000
/-! The rules that speak of the written part, with that part named: for use within comprehensions. -/
namespace Kx
open PySem PySem.Spec PyProof.Rows L2 G D L S C Sx
open PySem.W (dataLt)
section
variable {X : Cx} {K : PySem.W.Frag}
theorem ix_listK (e : X.K = K) : IxR X (rIxL K) := e ▸ ix_list
theorem ix_tupK (e : X.K = K) : IxR X (rIxT K) := e ▸ ix_tup
theorem ix_seqK (e : X.K = K) : IxR X (rIx K) := e ▸ ix_seq
theorem call_lenK (e : X.K = K) : CallR X (.builtin "len") (fun xs H Q => ∃ x n, xs = [x] ∧ LenV K x H n ∧ Q (.int (n : Nat)) H) := e ▸ call_len
theorem call_isiK' (e : X.K = K) : CallR X (.builtin "isinstance") (rIsi K) := e ▸ call_isi
theorem call_isiTK (e : X.K = K) : CallR X (.builtin "isinstance") (rIsiT K) := e ▸ call_isiT
theorem op_ltAK (e : X.K = K) (hu : X.A.units + 64 < cLine) : OpR X (compareOp .Lt) (rCmpA K dataLt) := e ▸ op_ltA hu
theorem op_geAK (e : X.K = K) (hu : X.A.units + 64 < cLine) : OpR X (compareOp .GtE) (rCmpA K fun d e => !dataLt d e) := e ▸ op_geA hu
theorem op_eq_strK (e : X.K = K) (hu : X.A.units + 1 < cLine) : OpR X (compareOp .Eq) (rEqStr K) := e ▸ op_eq_str hu
theorem call_reprK (e : X.K = K) (hc : Calm X.A) (hM : HasMods X.base) (hu : X.A.units + 110 < cLine) : CallR X (.builtin "repr") (rRepr K) := e ▸ call_repr hc hM hu
end
end Kx

set_option Elab.async false
set_option linter.all false
set_option maxRecDepth 100000
set_option maxHeartbeats 4000000
/-! x == y, x an instance whose class has an == of its own. -/
namespace Ex
open PySem PySem.Spec PyProof.Rows L2 G D L S C Sx Kx
/-- the == of the class at C, with its promise -/
structure EqM (P : Program) (w : World) (K : PySem.W.Frag) (mg : Str → Option Value) (base : Heap) (k : Nat) (C : Addr) (ps : List Str) (sp : Sp) where
  f : Addr
  fd : FuncData
  ok : Fn P w K mg base CX0 k f fd ps sp
  b : Binds K fd ps []
  hs : PySem.W.findIn K (.ref C) "__eq__" = some (some (.ref f))
  hf : PySem.W.isFn K (.ref f) = true
  nf : ∀ T ∈ ["NoneType", "bool", "int", "str", "list", "tuple", "dict"], PySem.W.notFirst K C (.type T) = true
  nfo : PySem.W.notFirst K C (.ref C) = true
theorem py_type {d : Dat} (h : d.pure = true) : PySem.W.dataType d.py = d.ty ∧ ∃ T ∈ ["NoneType", "bool", "int", "str", "list", "tuple", "dict"], d.ty = .type T := by
  cases d with
  | obj C a => cases h
  | _ => exact ⟨rfl, _, by decide, rfl⟩
section
variable {X : Cx} {k : Nat} {C : Addr} {ps : List Str} {sp : Sp}
def rEqO (K : PySem.W.Frag) (C : Addr) (sp : Sp) : R2 := fun x y H Q => ∃ a dx fs d, x = .ref a ∧ H a = some (.ins C dx fs) ∧ Rep K H y d ∧
  (d.pure = true ∨ ∃ a2, d = .obj C a2) ∧ sp [x, y] H (fun v H' => ∃ b, v = .bl b ∧ Q (.bl b) H') E0
theorem op_eqO (M : EqM X.prog X.w X.K X.mg X.base k C ps sp) (hc : Calm X.A) (hr : Room k X.A) (hps : ps.length = 2) : OpR X (compareOp .Eq) (rEqO X.K C sp) := by
  intro pins s σ H x y v u Q I rx ry h
  obtain ⟨a, dx, fs, d, rfl, ha, hd, hk, q⟩ := h
  cases (show v = Value.ref a from rx)
  obtain ⟨mA, J, _⟩ := ins_get I.hok ha
  obtain ⟨od, J, _⟩ := J.look
  obtain ⟨m, hF⟩ := I.fr
  have run : wpAny (model X.prog X.w) X.A (call (.ref M.f) [.ref a, u]) (PySem.W.CmpBack (EP X pins σ Q)) X.xe s := by
    have rv : Vals [V.ref a, y] [Value.ref a, u] := .cons rfl (.cons ry .nil)
    have go := callR_fn M.ok hc hr M.b .nil (E := E0) pass0 pins s σ H [V.ref a, y] [Value.ref a, u] _ I rv q
    refine wpAny_mono go ?_ fun _ _ z => z
    rintro r s' ⟨z, H', I', rz, b, rfl, qb⟩
    cases (show r = Value.bool b from rz)
    exact ⟨.bl b, H', I', rfl, qb⟩
  rcases hk with hp | ⟨a2, rfl⟩
  · obtain ⟨as, hr2, _⟩ := Rep.reads I d y u hd hp ry
    have lk := PySem.W.looks_reads (M := model X.prog X.w) hr2
    obtain ⟨e, T, hT, e2⟩ := py_type hp
    rw [e, e2] at lk
    exact PySem.W.cmp_K (op := .Eq) hr.units0 hF I.ok.mod.kin J lk (M.nf T hT) M.hs M.hf run
  · obtain ⟨rfl, o, dx2, fs2, e2⟩ := hd
    cases (show u = Value.ref a2 from ry)
    obtain ⟨mB, J', _⟩ := ins_get I.hok e2
    obtain ⟨od', J', _⟩ := J'.look
    exact PySem.W.cmp_K (op := .Eq) hr.units0 hF I.ok.mod.kin J J'.type M.nfo M.hs M.hf run
/-- x == a text, x data or an instance of the class at C -/
def rEqS (K : PySem.W.Frag) (C : Addr) (sp : Sp) : R2 := fun x y H Q => rEqStr K x y H Q ∨ rEqO K C sp x y H Q
theorem op_eqS (M : EqM X.prog X.w X.K X.mg X.base k C ps sp) (hc : Calm X.A) (hr : Room k X.A) (hps : ps.length = 2) (hu : X.A.units + 1 < cLine) : OpR X (compareOp .Eq) (rEqS X.K C sp) := by
  intro pins s σ H x y v u Q I rx ry h
  rcases h with h | h
  · exact op_eq_str hu pins s σ H x y v u Q I rx ry h
  · exact op_eqO M hc hr hps pins s σ H x y v u Q I rx ry h
/-- an instance of the class at C is not equal to a text -/
def spNe (C : Addr) : Sp := fun vs H Q _ => ∃ a t dx fs, vs = [.ref a, .str t] ∧ H a = some (.ins C dx fs) ∧ ∀ H', Same H H' → Q (.bl false) H'
end
end Ex

set_option Elab.async false
set_option linter.all false
set_option maxRecDepth 100000
set_option maxHeartbeats 4000000
/-! Written data: an expression of constants, lists, tuples and small dicts, read at one stroke. -/
namespace Lt
open PySem PySem.Spec PyProof.Rows L2 G D L S C Sx Kx
def constD : Expr → Option Dat
  | .Constant .none _ _ => some .non
  | .Constant (.bool b) _ _ => some (.bl b)
  | .Constant (.int i) _ _ => some (.int i)
  | .Constant (.str x) _ _ => some (.str x)
  | _ => none
def keyOf : Expr → Option Key
  | .Constant (.int i) _ _ => some (.inl i)
  | .Constant (.str x) _ _ => some (.inr x)
  | _ => none
def litD : Nat → Expr → Option Dat
  | 0, _ => none
  | n + 1, e => match e with
    | .List es _ => (es.mapM (litD n)).map .lst
    | .Tuple es _ _ => (es.mapM (litD n)).map .tup
    | .Dict [] [] _ => some (.dct [] [])
    | .Dict [some k] [v] _ => match keyOf k, litD n v with
      | some kk, some d => some (.dct [kk] [d])
      | _, _ => none
    | .UnaryOp .USub a _ => match litD n a with
      | some (.int i) => some (.int (-i))
      | _ => none
    | .BinOp a .Pow b _ => match litD n a, litD n b with
      | some (.int i), some (.int j) => if 0 ≤ j ∧ j ≤ 1000000 ∧ i.natAbs < 2 ^ 64 then some (.int (i ^ j.toNat)) else none
      | _, _ => none
    | e => constD e
/-- the union: the first one's word stands -/
def uni (A B : Hp) : Hp := fun x => match A x with
  | some o => some o
  | none => B x
theorem uni_l {A B : Hp} : Same A (uni A B) := fun x o e => by unfold uni; rw [e]
theorem uni_r {A B : Hp} (h : ∀ x o, B x = some o → A x = none) : Same B (uni A B) := fun x o e => by unfold uni; rw [h x o e]; exact e
theorem uni_sub {A B H : Hp} (a : Same A H) (b : Same B H) : Same (uni A B) H := fun x o e => by
  unfold uni at e
  cases q : A x with
  | some u => rw [q] at e; rw [← Option.some.inj e]; exact a x u q
  | none => rw [q] at e; exact b x o e
/-- N is new over H, in H' -/
structure New (H N H' : Hp) : Prop where
  old : Same H H'
  sub : Same N H'
  dis : ∀ x o, N x = some o → H x = none
theorem New.nil (H : Hp) : New H (fun _ => none) H := ⟨.refl H, fun _ _ e => (nomatch e), fun _ _ e => (nomatch e)⟩
theorem New.trans {H N H1 N2 H2 : Hp} (a : New H N H1) (b : New H1 N2 H2) : New H (uni N N2) H2 := by
  refine ⟨a.old.trans b.old, uni_sub (a.sub.trans b.old) b.sub, fun x o e => ?_⟩
  unfold uni at e
  cases q : N x with
  | some u => exact a.dis x u q
  | none =>
    rw [q] at e
    exact a.old.free (b.dis x o e)
theorem New.right {H N H1 N2 H2 : Hp} (a : New H N H1) (b : New H1 N2 H2) : Same N2 (uni N N2) := uni_r fun x o e => a.sub.free (b.dis x o e)
theorem New.put {H N H1 : Hp} (a : New H N H1) {p : Addr} {o : HO} (hp : H1 p = none) : New H (upd N p o) (upd H1 p o) ∧ Same N (upd N p o) := by
  have np : N p = none := a.sub.free hp
  refine ⟨⟨fun x u e => ?_, fun x u e => ?_, fun x u e => ?_⟩, same_upd np⟩
  · rw [upd_ne (ne_of_none (a.old _ _ e) hp)]
    exact a.old _ _ e
  · by_cases q : x = p
    · subst q
      rw [upd_same] at e ⊢
      exact e
    · rw [upd_ne q] at e ⊢
      exact a.sub _ _ e
  · by_cases q : x = p
    · subst q
      exact a.old.free hp
    · rw [upd_ne q] at e
      exact a.dis _ _ e
def tLit (K : PySem.W.Frag) (d : Dat) : TE := fun _ H Q => ∀ v N H', New H N H' → Rep K N v d → Q v H'
def tLits (K : PySem.W.Frag) (ds : List Dat) : TA := fun _ H Q => ∀ vs N H', New H N H' → RepAll K N vs ds → Q vs H'
section
variable {X : Cx}
theorem pe_const {e : Expr} {d : Dat} (h : constD e = some d) : PE X e (tLit X.K d) := by
  have one : ∀ {e : Expr} {v : V}, PE X e (tC v) → (∀ N, Rep X.K N v d) → PE X e (tLit X.K d) := by
    intro e v he hr
    refine ⟨fun pins s σ H Q I k => he.run pins s σ H Q I ?_⟩
    exact k v _ H (.nil H) (hr _)
  unfold constD at h
  split at h <;> first | (cases h; done) | (cases h; first | exact one pe_non fun _ => rfl | exact one pe_bl fun _ => rfl | exact one pe_int fun _ => rfl | exact one pe_str fun _ => rfl)
theorem lit_star {n : Nat} {e : Expr} {d : Dat} (h : litD n e = some d) (es : List Expr) : starEach (e :: es) X.env = (false, eval e X.env) :: starEach es X.env := by
  cases n with
  | zero => cases h
  | succ n => cases e <;> first | rfl | (unfold litD constD at h; cases h)
theorem pa_lits {n : Nat} (ih : ∀ e d, litD n e = some d → PE X e (tLit X.K d)) : ∀ (es : List Expr) (ds : List Dat), es.mapM (litD n) = some ds → PA X es (tLits X.K ds)
  | [], ds, h => by
    cases (show some ([] : List Dat) = some ds from by simpa using h)
    refine ⟨fun pos pins s σ H Q I k => pa_nil.run pos pins s σ H Q I ?_⟩
    exact k [] _ H (.nil H) rfl
  | e :: es, ds, h => by
    rw [List.mapM_cons] at h
    cases h1 : litD n e with
    | none => rw [h1] at h; cases h
    | some d =>
      cases h2 : es.mapM (litD n) with
      | none => rw [h1, h2] at h; cases h
      | some dr =>
        rw [h1, h2] at h
        cases (show some (d :: dr) = some ds from h)
        have pe := ih e d h1
        have pr := pa_lits ih es dr h2
        refine ⟨fun pos pins s σ H Q I k => (pa_cons pe pr (lit_star h1 es)).run pos pins s σ H Q I ?_⟩
        intro v N H1 n1 r1 vs N2 H2 n2 r2
        exact k _ _ _ (n1.trans n2) ⟨v, vs, rfl, Rep.mono uni_l _ r1, RepAll.mono (n1.right n2) _ r2⟩
theorem mapM_len {α β : Type} {f : α → Option β} : ∀ {xs : List α} {ys : List β}, xs.mapM f = some ys → ys.length = xs.length
  | [], ys, h => by cases (show some ([] : List β) = some ys from by simpa using h); rfl
  | x :: xs, ys, h => by
    rw [List.mapM_cons] at h
    cases h1 : f x with
    | none => rw [h1] at h; cases h
    | some d =>
      cases h2 : xs.mapM f with
      | none => rw [h1, h2] at h; cases h
      | some dr =>
        rw [h1, h2] at h
        cases (show some (d :: dr) = some ys from h)
        simp [mapM_len h2]
/-- all displays are of a size that Python lets -/
def sizes : Nat → Dat → Bool
  | 0, _ => false
  | n + 1, .lst ds => decide (ds.length ≤ 1000) && ds.all (sizes n)
  | n + 1, .tup ds => decide (ds.length ≤ 1000) && ds.all (sizes n)
  | n + 1, .dct _ ds => ds.all (sizes n)
  | _, _ => true
theorem lit_lst {es : List Expr} {ds : List Dat} {pos : Pos} (h : PA X es (tLits X.K ds)) (hz : ds.length ≤ 1000) : PE X (.List es pos) (tLit X.K (.lst ds)) := by
  refine ⟨fun pins s σ H Q I k => (pe_lst h).run pins s σ H Q I ?_⟩
  intro vs N H1 n1 r1
  have l := r1.length
  refine ⟨Nat.le_trans (by omega : vs.length ≤ 1000) (by decide), fun p hp => ?_⟩
  obtain ⟨n2, sN⟩ := n1.put (o := .lst vs) hp
  exact k _ _ _ n2 ⟨p, vs, rfl, upd_same, RepAll.mono sN _ r1⟩
theorem lit_tup {es : List Expr} {ds : List Dat} {x : Nat} {pos : Pos} (h : PA X es (tLits X.K ds)) (hz : ds.length ≤ 1000) : PE X (.Tuple es x pos) (tLit X.K (.tup ds)) := by
  refine ⟨fun pins s σ H Q I k => (pe_tup h).run pins s σ H Q I ?_⟩
  intro vs N H1 n1 r1
  have l := r1.length
  refine ⟨Nat.le_trans (by omega : vs.length ≤ 1000) (by decide), fun p hp => ?_⟩
  obtain ⟨n2, sN⟩ := n1.put (o := .tup vs) hp
  exact k _ _ _ n2 ⟨p, vs, rfl, upd_same, RepAll.mono sN _ r1⟩
theorem lit_dct0 {pos : Pos} : PE X (.Dict [] [] pos) (tLit X.K (.dct [] [])) := by
  refine ⟨fun pins s σ H Q I k => pe_dnewK.run pins s σ H Q I ?_⟩
  intro p hp
  obtain ⟨n2, _⟩ := (New.nil H).put (o := .dK []) hp
  exact k _ _ _ n2 ⟨p, [], rfl, upd_same, rfl, rfl⟩
theorem key_pe {k : Expr} {kk : Key} (h : keyOf k = some kk) : PE X k (tC (kV kk)) := by
  unfold keyOf at h
  split at h
  · cases h; exact pe_int
  · cases h; exact pe_str
  · cases h
theorem lit_dct1 {k e : Expr} {kk : Key} {d : Dat} {pos : Pos} (hk : keyOf k = some kk) (he : PE X e (tLit X.K d)) : PE X (.Dict [some k] [e] pos) (tLit X.K (.dct [kk] [d])) := by
  have base : PE X (.Dict [some k] [e] pos) (tDisp [(tC (kV kk), tLit X.K d)]) :=
    pe_disp (pps_cons (key_pe hk) he pps_nil) (by rfl) (by rfl) (fun z => by cases z) (show 1 ≤ 15 by decide)
  refine ⟨fun pins s σ H Q I q => base.run pins s σ H Q I ?_⟩
  intro p hp v N H1 n1 r1
  have hp1 : H1 p = some (.dK []) := n1.old _ _ upd_same
  have pN : N p = none := by
    cases z : N p with
    | none => rfl
    | some o => have := n1.dis p o z; rw [upd_same] at this; cases this
  refine ⟨hp1, [(kk, v)], rfl, show 1 ≤ 15 by decide, ?_⟩
  have e : mergeK [] [(kk, v)] = [(kk, v)] := rfl
  rw [e]
  refine q _ (upd N p (.dK [(kk, v)])) _ ⟨fun x o ex => ?_, fun x o ex => ?_, fun x o ex => ?_⟩ ⟨p, [(kk, v)], rfl, upd_same, rfl, v, [], rfl, Rep.mono (same_upd pN) _ r1, rfl⟩
  · have nx : x ≠ p := ne_of_none ex hp
    rw [upd_ne nx]
    exact n1.old _ _ (by rw [upd_ne nx]; exact ex)
  · by_cases qx : x = p
    · subst qx
      rw [upd_same] at ex ⊢
      exact ex
    · rw [upd_ne qx] at ex ⊢
      exact n1.sub _ _ ex
  · by_cases qx : x = p
    · subst qx; exact hp
    · rw [upd_ne qx] at ex
      have := n1.dis _ _ ex
      rw [upd_ne qx] at this
      exact this
/-- any written datum -/
theorem pe_lit_n : ∀ (n : Nat) (e : Expr) (d : Dat), litD n e = some d → sizes n d = true → PE X e (tLit X.K d) := by
  intro n
  induction n with
  | zero => intro e d h; cases h
  | succ n ih =>
    intro e d h hz
    have many : ∀ (es : List Expr) (ds : List Dat), es.mapM (litD n) = some ds → ds.all (sizes n) = true → PA X es (tLits X.K ds) := by
      intro es
      induction es with
      | nil =>
        intro ds h1 _
        cases (show some ([] : List Dat) = some ds from by simpa using h1)
        exact ⟨fun pos pins s σ H Q I k => pa_nil.run pos pins s σ H Q I (k [] _ H (.nil H) rfl)⟩
      | cons e es ihe =>
        intro ds h1 hs
        rw [List.mapM_cons] at h1
        cases h2 : litD n e with
        | none => rw [h2] at h1; cases h1
        | some d1 =>
          cases h3 : es.mapM (litD n) with
          | none => rw [h2, h3] at h1; cases h1
          | some dr =>
            rw [h2, h3] at h1
            cases (show some (d1 :: dr) = some ds from h1)
            rw [List.all_cons, Bool.and_eq_true] at hs
            refine ⟨fun pos pins s σ H Q I k => (pa_cons (ih e d1 h2 hs.1) (ihe dr h3 hs.2) (lit_star h2 es)).run pos pins s σ H Q I ?_⟩
            intro v N H1 n1 r1 vs N2 H2 n2 r2
            exact k _ _ _ (n1.trans n2) ⟨v, vs, rfl, Rep.mono uni_l _ r1, RepAll.mono (n1.right n2) _ r2⟩
    unfold litD at h
    split at h
    · rename_i es pos
      cases h1 : es.mapM (litD n) with
      | none => rw [h1] at h; cases h
      | some ds =>
        rw [h1] at h
        cases h
        have hz' : (decide (ds.length ≤ 1000) && ds.all (sizes n)) = true := hz
        rw [Bool.and_eq_true, decide_eq_true_eq] at hz'
        exact lit_lst (many es ds h1 hz'.2) hz'.1
    · rename_i es x pos
      cases h1 : es.mapM (litD n) with
      | none => rw [h1] at h; cases h
      | some ds =>
        rw [h1] at h
        cases h
        have hz' : (decide (ds.length ≤ 1000) && ds.all (sizes n)) = true := hz
        rw [Bool.and_eq_true, decide_eq_true_eq] at hz'
        exact lit_tup (many es ds h1 hz'.2) hz'.1
    · cases h
      exact lit_dct0
    · rename_i k v pos
      cases h1 : keyOf k with
      | none => rw [h1] at h; cases h
      | some kk =>
        cases h2 : litD n v with
        | none => rw [h1, h2] at h; cases h
        | some d1 =>
          rw [h1, h2] at h
          cases h
          have hz' : [d1].all (sizes n) = true := hz
          rw [List.all_cons, Bool.and_eq_true] at hz'
          exact lit_dct1 h1 (ih v d1 h2 hz'.1)
    · rename_i a pos
      cases h1 : litD n a with
      | none => rw [h1] at h; cases h
      | some d1 =>
        rw [h1] at h
        cases d1 with
        | int i =>
          cases h
          have pa := ih a _ h1 (by cases n with | zero => cases h1 | succ n => rfl)
          refine ⟨fun pins s σ H Q I k => (pe_un un_neg pa).run pins s σ H Q I ?_⟩
          intro v N H1 n1 r1
          cases (show v = V.int i from r1)
          exact ⟨i, rfl, k _ _ _ n1 rfl⟩
        | _ => cases h
    · rename_i a b pos
      cases h1 : litD n a with
      | none => rw [h1] at h; cases h
      | some d1 =>
        cases h2 : litD n b with
        | none => rw [h1, h2] at h; cases d1 <;> cases h
        | some d2 =>
          rw [h1, h2] at h
          cases d1 with
          | int i =>
            cases d2 with
            | int j =>
              simp only at h
              split at h
              · rename_i c
                cases h
                have pa := ih a _ h1 (by cases n with | zero => cases h1 | succ n => rfl)
                have pb := ih b _ h2 (by cases n with | zero => cases h2 | succ n => rfl)
                refine ⟨fun pins s σ H Q I k => (pe_op op_pow pa pb).run pins s σ H Q I ?_⟩
                intro v N H1 n1 r1 u N2 H2 n2 r2
                cases (show v = V.int i from r1)
                cases (show u = V.int j from r2)
                exact ⟨i, j, rfl, rfl, c, k _ _ _ (n1.trans n2) rfl⟩
              · cases h
            | _ => cases h
          | _ => cases h
    · exact pe_const h
/-- some written items, then others -/
def tMix (K : PySem.W.Frag) (ds : List Dat) (t : TA) : TA := fun σ H Q => ∀ vs N H', New H N H' → RepAll K N vs ds → t σ H' fun us H2 => Q (vs ++ us) H2
theorem pa_mix0 (n : Nat) : ∀ (k : Nat) (l : List Expr) (ds : List Dat) (t : TA), (l.take k).mapM (litD n) = some ds → ds.all (sizes n) = true → PA X (l.drop k) t → PA X l (tMix X.K ds t) := by
  intro k
  induction k with
  | zero =>
    intro l ds t h _ hr
    cases (show some ([] : List Dat) = some ds from by simpa using h)
    refine ⟨fun pos pins s σ H Q I q => hr.run pos pins s σ H Q I ?_⟩
    exact q [] _ H (.nil H) rfl
  | succ k ih =>
    intro l ds t h hz hr
    cases l with
    | nil =>
      cases (show some ([] : List Dat) = some ds from by simpa using h)
      refine ⟨fun pos pins s σ H Q I q => hr.run pos pins s σ H Q I ?_⟩
      exact q [] _ H (.nil H) rfl
    | cons e es =>
      rw [List.take_succ_cons, List.mapM_cons] at h
      cases h1 : litD n e with
      | none => rw [h1] at h; cases h
      | some d =>
        cases h2 : (es.take k).mapM (litD n) with
        | none => rw [h1, h2] at h; cases h
        | some dr =>
          rw [h1, h2] at h
          cases (show some (d :: dr) = some ds from h)
          rw [List.all_cons, Bool.and_eq_true] at hz
          have pr := ih es dr t h2 hz.2 hr
          refine ⟨fun pos pins s σ H Q I q => (pa_cons (pe_lit_n n e d h1 hz.1) pr (lit_star h1 es)).run pos pins s σ H Q I ?_⟩
          intro v N H1 n1 r1 vs N2 H2 n2 r2
          exact q (v :: vs) _ _ (n1.trans n2) ⟨v, vs, rfl, Rep.mono uni_l _ r1, RepAll.mono (n1.right n2) _ r2⟩
theorem pa_mix {K : PySem.W.Frag} (n k : Nat) {l : List Expr} {ds : List Dat} {t : TA} (h : (l.take k).mapM (litD n) = some ds) (hz : ds.all (sizes n) = true) (hr : PA X (l.drop k) t) (hK : X.K = K := by rfl) :
    PA X l (tMix K ds t) := hK ▸ pa_mix0 n k l ds t h hz hr
/-- with the written part named: h by rfl or decide +kernel -/
theorem pe_lit {K : PySem.W.Frag} {e : Expr} {d : Dat} (n : Nat) (h : litD n e = some d) (hz : sizes n d = true) (hK : X.K = K := by rfl) : PE X e (tLit K d) := hK ▸ pe_lit_n n e d h hz
end
end Lt

set_option Elab.async false
set_option linter.all false
set_option maxRecDepth 100000
set_option maxHeartbeats 4000000
/-! A frozen part beside a bag. -/
namespace Fz
open PySem PySem.Spec PyProof.Rows L2 G D L S C Sx Kx Lt
/-- F is frozen in H; the bag at b lies outside of it -/
structure Fr (F H : Hp) (b : Addr) : Prop where
  same : Same F H
  out : F b = none
  cell : ∃ l o, BagL H b l ∧ F l = Option.some o
theorem Fr.bag {F H : Hp} {b : Addr} (f : Fr F H b) : Bag H b := let ⟨l, _, q, _⟩ := f.cell; ⟨l, q⟩
theorem Fr.cell' {F H F' H' : Hp} {b : Addr} (f : Fr F H b) (s : Same H H') (t : Same F F') : ∃ l o, BagL H' b l ∧ F' l = Option.some o :=
  let ⟨l, o, q, r⟩ := f.cell; ⟨l, o, q.keep s, t _ _ r⟩
theorem Fr.grow {F H H' : Hp} {b : Addr} (f : Fr F H b) (s : Same H H') : Fr F H' b := ⟨f.same.trans s, f.out, f.cell' s (.refl _)⟩
theorem Fr.took {F H H' : Hp} {b : Addr} (f : Fr F H b) (s : SameBut b H H') (g : BagTo H H' b) : Fr F H' b := by
  obtain ⟨l, o, q, r⟩ := f.cell
  obtain ⟨l', q1, q2⟩ := g
  rw [← q.one q1] at q2
  exact ⟨s.from f.same f.out, f.out, l, o, q2, r⟩
theorem Fr.some {F H : Hp} {b : Addr} (f : Fr F H b) : ∃ o, H b = Option.some o := by
  obtain ⟨l, c0, c1, c2, ms, h, _⟩ := f.bag
  exact ⟨_, h⟩
theorem Fr.lit {F H N H' : Hp} {b : Addr} (f : Fr F H b) (n : New H N H') : Fr (uni F N) H' b ∧ Same F (uni F N) ∧ Same N (uni F N) := by
  refine ⟨⟨uni_sub (f.same.trans n.old) n.sub, ?_, f.cell' n.old uni_l⟩, uni_l, uni_r fun x o e => f.same.free (n.dis x o e)⟩
  unfold uni
  rw [f.out]
  cases q : N b with
  | none => rfl
  | some u =>
    obtain ⟨o, e⟩ := f.some
    rw [n.dis b u q] at e
    cases e
theorem Fr.put {F H : Hp} {b p : Addr} {o : HO} (f : Fr F H b) (hp : H p = none) : Fr (upd F p o) (upd H p o) b ∧ Same F (upd F p o) := by
  have pF : F p = none := f.same.free hp
  have bp : b ≠ p := by
    obtain ⟨u, e⟩ := f.some
    exact ne_of_none e hp
  refine ⟨⟨fun x u e => ?_, by rw [upd_ne bp]; exact f.out, f.cell' (same_upd hp) (same_upd pF)⟩, same_upd pF⟩
  by_cases q : x = p
  · subst q
    rw [upd_same] at e ⊢
    exact e
  · rw [upd_ne q] at e ⊢
    exact f.same _ _ e
/-- the same, the frozen part without its name -/
theorem Fr.put' {F H : Hp} {b p : Addr} {o : HO} (f : Fr F H b) (hp : H p = none) : ∃ F', Fr F' (upd H p o) b ∧ Same F F' ∧ F' p = Option.some o :=
  ⟨_, (f.put hp).1, (f.put hp).2, upd_same⟩
theorem Fr.lit' {F H N H' : Hp} {b : Addr} (f : Fr F H b) (n : New H N H') : ∃ F', Fr F' H' b ∧ Same F F' ∧ Same N F' :=
  ⟨_, (f.lit n).1, (f.lit n).2.1, (f.lit n).2.2⟩
theorem Fr.ne {F H : Hp} {b p : Addr} {o : HO} (f : Fr F H b) (h : F p = Option.some o) : p ≠ b := fun z => by
  rw [z, f.out] at h
  cases h
theorem Fr.rep {K : PySem.W.Frag} {F H : Hp} {b : Addr} {v : V} {d : Dat} (f : Fr F H b) (h : Rep K F v d) : Rep K H v d := Rep.mono f.same d h
/-- from F and H on: the frozen part has grown by new things alone, all but the bag stands -/
structure Go (b : Addr) (F H F' H' : Hp) : Prop where
  fr : Fr F' H' b
  up : Same F F'
  but : SameBut b H H'
  new : ∀ x o, F' x = Option.some o → F x = Option.some o ∨ H x = none
section
variable {b p : Addr} {F H F1 H1 F2 H2 N : Hp} {o : HO}
theorem Go.refl (f : Fr F H b) : Go b F H F H := ⟨f, .refl F, .refl b H, fun _ _ e => .inl e⟩
theorem Go.trans (a : Go b F H F1 H1) (c : Go b F1 H1 F2 H2) : Go b F H F2 H2 := by
  refine ⟨c.fr, a.up.trans c.up, a.but.trans c.but, fun x u e => ?_⟩
  rcases c.new x u e with q | q
  · exact a.new x u q
  · refine .inr ?_
    by_cases hx : x = b
    · obtain ⟨o, z⟩ := a.fr.some
      rw [hx, z] at q
      cases q
    · cases hH : H x with
      | none => rfl
      | some u' =>
        rw [a.but x u' hx hH] at q
        cases q
theorem Go.bag (a : Go b F H F1 H1) : Bag H1 b := a.fr.bag
theorem Go.same (a : Go b F H F1 H1) : Same F1 H1 := a.fr.same
theorem Go.out (a : Go b F H F1 H1) : F1 b = none := a.fr.out
theorem Go.ne (a : Go b F H F1 H1) (h : F1 p = Option.some o) : p ≠ b := a.fr.ne h
theorem Go.grow (a : Go b F H F1 H1) (s : Same H1 H2) : Go b F H F1 H2 := ⟨a.fr.grow s, a.up, a.but.same s, a.new⟩
theorem Go.took (a : Go b F H F1 H1) (s : SameBut b H1 H2) (g : BagTo H1 H2 b) : Go b F H F1 H2 := ⟨a.fr.took s g, a.up, a.but.trans s, a.new⟩
theorem Go.lit' (a : Go b F H F1 H1) (n : New H1 N H2) : ∃ F', Go b F H F' H2 ∧ Same F1 F' ∧ Same N F' := by
  obtain ⟨f, s, t⟩ := a.fr.lit n
  refine ⟨_, a.trans ⟨f, s, Same.but n.old, fun x u e => ?_⟩, s, t⟩
  unfold uni at e
  cases q : F1 x with
  | some w => rw [q] at e; exact .inl e
  | none => rw [q] at e; exact .inr (n.dis x u e)
theorem Go.put' (a : Go b F H F1 H1) (hp : H1 p = none) : ∃ F', Go b F H F' (upd H1 p o) ∧ Same F1 F' ∧ F' p = Option.some o := by
  obtain ⟨f, s⟩ := a.fr.put (o := o) hp
  refine ⟨_, a.trans ⟨f, s, Same.but (same_upd hp), fun x u e => ?_⟩, s, upd_same⟩
  by_cases q : x = p
  · rw [q]; exact .inr hp
  · rw [upd_ne q] at e; exact .inl e
end
/-- something is drawn: data that are good in the way of G -/
def spDraw (K : PySem.W.Frag) (Gd : Dat → Prop) : Sp := fun vs H Q _ => ∃ (b : Addr) (F : Hp), vs = [.ref b] ∧ Fr F H b ∧
  ∀ v d F' H', Go b F H F' H' → Rep K F' v d → Gd d → Q v H'
/-- something is drawn off a datum -/
def spDraw1 (K : PySem.W.Frag) (Pd Gd : Dat → Prop) : Sp := fun vs H Q _ => ∃ (b : Addr) (F : Hp) (u : V) (e : Dat), vs = [.ref b, u] ∧ Fr F H b ∧ Rep K F u e ∧ Pd e ∧
  ∀ v d F' H', Go b F H F' H' → Rep K F' v d → Gd d → Q v H'
section
open C
variable {b : Addr} {F H1 : Hp} {K : PySem.W.Frag}
/-- a comprehension over a range, each turn of which draws a datum -/
theorem lc_draw {lo : Int} {n : Nat} {g : TG} {te : TE} {vs : List Nat} {σ : L2.St} {D : Addr} {Qd : Hp → Prop} (Gd : Dat → Prop) (hz : n < sizeLine) (hD : H1 D = none) (f : Fr F H1 b)
    (turn : ∀ (i : Nat) (F' H : Hp) (Kt : V → Hp → Prop), Fr F' H b →
      (∀ v d F2 H2, Go b F' H F2 H2 → Rep K F2 v d → Gd d → Kt v H2) →
      g (.int (lo + (i : Nat))) (wipe σ vs) H fun σ2 H2 => wipe σ2 vs = wipe σ vs ∧ te σ2 H2 Kt)
    (done : ∀ F' H xs ds, Go b F H1 F' H → H D = some (.lst xs) → F' D = none → D ≠ b → RepAll K F' xs ds → ds.length = n → (∀ d ∈ ds, Gd d) → Qd H) :
    ∃ W : Nat → Nat → Hp → Prop, (∃ m, W 0 m (upd H1 D (.lst []))) ∧ ∀ i m H, W i m H →
      ((Itr lo n).stop i H ∧ Qd H) ∨ ((Itr lo n).go i H ∧ ∃ Nx : Hp → Prop, (∀ H', Nx H' → ∃ m', m' < m ∧ W (i + 1) m' H') ∧ ∀ x H', (Itr lo n).yld i H x H' →
        g x (wipe σ vs) H' fun σ2 H2 => wipe σ2 vs = wipe σ vs ∧ tYes σ2 H2 fun b H3 =>
          if b = true then te σ2 H3 fun y H4 => ∃ acc, H4 D = some (.lst acc) ∧ acc.length < sizeLine ∧ Nx (upd H4 D (.lst (acc ++ [y]))) else Nx H3) := by
  have Db : D ≠ b := fun z => by
    obtain ⟨o, e⟩ := f.some
    rw [z, e] at hD
    cases hD
  refine lc_it walk_range (fun i H => ∃ F' xs ds, Go b F H1 F' H ∧ H D = some (.lst xs) ∧ F' D = none ∧ RepAll K F' xs ds ∧ ds.length = i ∧ ∀ d ∈ ds, Gd d)
    ⟨F, [], [], (Go.refl f).grow (same_upd hD), upd_same, f.same.free hD, rfl, rfl, fun _ h => nomatch h⟩ (fun _ _ _ _ => trivial) ?_ ?_
  · rintro i x H H' hi ⟨F', xs, ds, go, hd, fd, hr, hl, hg⟩ ⟨rfl, rfl⟩
    refine turn i F' H' _ go.fr fun v d F2 H2 g2 r2 gd => ?_
    have hd2 := g2.but _ _ Db hd
    have fd2 : F2 D = none := by
      cases q : F2 D with
      | none => rfl
      | some o =>
        rcases g2.new _ _ q with z | z
        · rw [fd] at z; cases z
        · rw [hd] at z; cases z
    have g3 := go.trans g2
    have lx := hr.length
    refine ⟨xs, hd2, by rw [lx, hl]; omega, F2, xs ++ [v], ds ++ [d], ⟨⟨fun y o e => ?_, g3.out, ?_⟩, g3.up, fun y o ny e => ?_, g3.new⟩, upd_same, fd2, RepAll.append (RepAll.mono g2.up _ hr) (.one r2), ?_, ?_⟩
    · have : y ≠ D := fun z => by rw [z, fd2] at e; cases e
      rw [upd_ne this]
      exact g3.same _ _ e
    · obtain ⟨l, o, ⟨c0, c1, c2, ms, q1, q2, q3⟩, hl2⟩ := g3.fr.cell
      have lD : l ≠ D := fun z => by
        rw [z, fd2] at hl2
        cases hl2
      refine ⟨l, o, ⟨c0, c1, c2, ms, ?_, ?_, q3⟩, hl2⟩
      · rw [upd_ne Db.symm]; exact q1
      · rw [upd_ne lD]; exact q2
    · have : y ≠ D := ne_of_none e hD
      rw [upd_ne this]
      exact g3.but _ _ ny e
    · rw [List.length_append, hl]; rfl
    · intro e he
      rcases List.mem_append.mp he with he | he
      · exact hg e he
      · rw [List.mem_singleton] at he
        subst he
        exact gd
  · rintro H ⟨F', xs, ds, go, hd, fd, hr, hl, hg⟩
    exact done F' H xs ds go hd fd Db hr hl hg
end
end Fz

set_option Elab.async false
set_option linter.all false
set_option maxRecDepth 100000
set_option maxHeartbeats 4000000
/-! A thing of one's own beside the frozen part: written, and frozen at last. -/
namespace Fz
open PySem PySem.Spec PyProof.Rows L2 G D L S C Sx Kx Lt
section
variable {b D : Addr} {F H F1 H1 F2 H2 : Hp} {o o' : HO}
theorem Go.write (a : Go b F H F1 H1) (hD : H D = none) (fD : F1 D = none) (nD : D ≠ b) : Go b F H F1 (upd H1 D o) := by
  refine ⟨⟨fun y u e => ?_, a.out, ?_⟩, a.up, fun y u ny e => ?_, a.new⟩
  · have : y ≠ D := fun z => by rw [z, fD] at e; cases e
    rw [upd_ne this]
    exact a.same _ _ e
  · obtain ⟨l, q, ⟨c0, c1, c2, ms, q1, q2, q3⟩, hl⟩ := a.fr.cell
    have lD : l ≠ D := fun z => by
      rw [z, fD] at hl
      cases hl
    refine ⟨l, q, ⟨c0, c1, c2, ms, ?_, ?_, q3⟩, hl⟩
    · rw [upd_ne nD.symm]; exact q1
    · rw [upd_ne lD]; exact q2
  · rw [upd_ne (ne_of_none e hD)]
    exact a.but _ _ ny e
theorem Go.freeze (a : Go b F H F1 H1) (hD : H D = none) (fD : F1 D = none) (nD : D ≠ b) (at1 : H1 D = some o) : Go b F H (upd F1 D o) H1 := by
  refine ⟨⟨fun y u e => ?_, ?_, ?_⟩, a.up.trans (same_upd fD), a.but, fun y u e => ?_⟩
  · by_cases q : y = D
    · subst q
      rw [upd_same] at e
      rw [at1, ← e]
    · rw [upd_ne q] at e
      exact a.same _ _ e
  · rw [upd_ne nD.symm]
    exact a.out
  · obtain ⟨l, q, q1, q2⟩ := a.fr.cell
    exact ⟨l, q, q1, same_upd fD _ _ q2⟩
  · by_cases q : y = D
    · subst q
      exact .inr hD
    · rw [upd_ne q] at e
      exact a.new _ _ e
/-- what lies outside of the frozen part stays outside -/
theorem Go.outside (a : Go b F H F1 H1) (fD : F D = none) (at1 : H D = some o) : F1 D = none := by
  cases q : F1 D with
  | none => rfl
  | some u =>
    rcases a.new _ _ q with z | z
    · rw [fD] at z; cases z
    · rw [at1] at z; cases z
/-- a list of one's own -/
structure Own (K : PySem.W.Frag) (G : Dat → Prop) (b D : Addr) (F0 H0 F H : Hp) (xs : List V) (ds : List Dat) : Prop where
  go : Go b F0 H0 F H
  z0 : H0 D = none
  fD : F D = none
  nD : D ≠ b
  at1 : H D = some (.lst xs)
  hs : RepAll K F xs ds
  al : ∀ d ∈ ds, G d
variable {K : PySem.W.Frag} {G : Dat → Prop} {F0 H0 : Hp} {xs ys : List V} {ds es : List Dat}
theorem Own.set (a : Own K G b D F0 H0 F H xs ds) (h : RepAll K F ys es) (g : ∀ d ∈ es, G d) : Own K G b D F0 H0 F (upd H D (.lst ys)) ys es := by
  refine ⟨?_, a.z0, a.fD, a.nD, upd_same, h, g⟩
  exact a.go.write a.z0 a.fD a.nD
theorem Own.on (a : Own K G b D F0 H0 F H xs ds) (g : Go b F H F1 H1) : Own K G b D F0 H0 F1 H1 xs ds :=
  ⟨a.go.trans g, a.z0, g.outside a.fD a.at1, a.nD, g.but _ _ a.nD a.at1, RepAll.mono g.up _ a.hs, a.al⟩
theorem Own.end (a : Own K G b D F0 H0 F H xs ds) : Go b F0 H0 (upd F D (.lst xs)) H ∧ Rep K (upd F D (.lst xs)) (.ref D) (.lst ds) :=
  ⟨a.go.freeze a.z0 a.fD a.nD a.at1, D, xs, rfl, upd_same, RepAll.mono (same_upd a.fD) _ a.hs⟩
/-- a new list of one's own -/
theorem Go.own (a : Go b F0 H0 F H) (hD : H D = none) (h : RepAll K F ys es) (g : ∀ d ∈ es, G d) : Own K G b D F0 H0 F (upd H D (.lst ys)) ys es := by
  have z0 : H0 D = none := by
    cases q : H0 D with
    | none => rfl
    | some u =>
      by_cases e : D = b
      · obtain ⟨o, z⟩ := a.fr.some
        rw [e, z] at hD
        cases hD
      · rw [a.but _ _ e q] at hD
        cases hD
  have nD : D ≠ b := fun e => by
    obtain ⟨o, z⟩ := a.fr.some
    rw [e, z] at hD
    cases hD
  exact ⟨a.grow (same_upd hD), z0, a.same.free hD, nD, upd_same, h, g⟩
end
end Fz

set_option Elab.async false
set_option linter.all false
set_option maxRecDepth 100000
set_option maxHeartbeats 8000000
namespace K
open PySem PySem.Spec PyProof.Rows L2 G D L S C
open C8 (pss_cut tCut)
def top (i : Nat) : Stmt := PySem.Challenge.pw_letinside_k11_kinds_of_any_value.main.body.getD i (.Pass ⟨0, 0, 0, 0⟩)
/-! what the words of the kinds mean -/
def lower (c : Nat) : Bool := decide (97 ≤ c) && decide (c ≤ 122)
def nameOk (x : Str) : Bool := decide (1 ≤ x.length) && decide (x.length ≤ 8) && x.cps.toList.all lower
def isName : Dat → Bool
  | .str x => nameOk x
  | _ => false
def isWhole : Dat → Bool
  | .int _ => true
  | _ => false
/-- a question about data -/
def spB (K : PySem.W.Frag) (ok : Dat → Prop) (g : Dat → Bool) : Sp := fun vs H Q _ => ∃ (v : V) (d : Dat), vs = [v] ∧ Rep K H v d ∧ ok d ∧ ∀ H', Same H H' → Q (.bl (g d)) H'
mutual
/-- small enough at every place -/
def wd : Dat → Bool
  | .str x => decide (x.length ≤ 100000)
  | .lst ds => decide (ds.length ≤ 100000) && wdAll ds
  | .tup ds => decide (ds.length ≤ 100000) && wdAll ds
  | _ => true
def wdAll : List Dat → Bool
  | [] => true
  | d :: ds => wd d && wdAll ds
end
abbrev Wd (d : Dat) : Prop := wd d = true
theorem wdAll_mem : ∀ {ds : List Dat}, wdAll ds = true → ∀ d ∈ ds, Wd d
  | [], _, _, h => by simp at h
  | e :: ds, h, d, hd => by
    have h' : (wd e && wdAll ds) = true := h
    rw [Bool.and_eq_true] at h'
    rcases List.mem_cons.mp hd with rfl | hd
    · exact h'.1
    · exact wdAll_mem h'.2 d hd
theorem wd_lst {ds : List Dat} (h : Wd (.lst ds)) : ds.length ≤ 100000 ∧ ∀ d ∈ ds, Wd d := by
  have h' : (decide (ds.length ≤ 100000) && wdAll ds) = true := h
  rw [Bool.and_eq_true, decide_eq_true_eq] at h'
  exact ⟨h'.1, wdAll_mem h'.2⟩
theorem wd_tup {ds : List Dat} (h : Wd (.tup ds)) : ds.length ≤ 100000 ∧ ∀ d ∈ ds, Wd d := wd_lst (ds := ds) h
theorem wd_str {x : Str} (h : Wd (.str x)) : x.length ≤ 100000 := of_decide_eq_true h
theorem cps_one (c : Nat) : (⟨#[c]⟩ : Str).cps.toList = [c] := rfl
theorem lower_test (c : Nat) : (!decide ((⟨#[c]⟩ : Str).cps.toList < ("a" : Str).cps.toList)) = decide (97 ≤ c) ∧ (!decide (("z" : Str).cps.toList < (⟨#[c]⟩ : Str).cps.toList)) = decide (c ≤ 122) := by
  have ea : ("a" : Str).cps.toList = [97] := by decide +kernel
  have ez : ("z" : Str).cps.toList = [122] := by decide +kernel
  rw [ea, ez, cps_one]
  constructor
  · by_cases h : 97 ≤ c
    · have : ¬ ([c] < [97]) := by rw [List.cons_lt_cons_iff]; simp; omega
      simp [this, h]
    · have : ([c] < [97]) := by rw [List.cons_lt_cons_iff]; omega
      simp [this, h]
  · by_cases h : c ≤ 122
    · have : ¬ ([122] < [c]) := by rw [List.cons_lt_cons_iff]; simp; omega
      simp [this, h]
    · have : ([122] < [c]) := by rw [List.cons_lt_cons_iff]; omega
      simp [this, h]
section
variable {P : Program} {w : World} {K : PySem.W.Frag} {mg : Str → Option Value} {base : Heap}
abbrev s_is_integer : Stmt := top 2
theorem sc_is_integer : FnScope ["thing"] ["thing"] (defScope s_is_integer) := ⟨rfl, rfl, rfl, by decide +kernel, rfl, by decide +kernel, by decide +kernel⟩
theorem ok_is_integer {f : Addr} {fd : FuncData} (F : Fun K "is_integer" "is_integer" s_is_integer f fd) (T : Bl mg) :
    Fn P w K mg base CX0 2 f fd ["thing"] (spB K (fun _ => True) isWhole) := by
  refine fn_calm F sc_is_integer (fun vs H Q E h => ?_) (fun cdv A outer s H vs Q E hc hr h => ?_)
  · obtain ⟨v, d, rfl, _⟩ := h
    rfl
  · obtain ⟨v, d, rfl, hv, _, k⟩ := h
    refine ⟨_, (pss_one (ps_ret (pe_and (pe_callB call_isi (by rfl) T.isinstanceN (by decide +kernel) (pa_cons (pv 0) (pa_cons (pe_bltn (v := .ty "int") (by rfl) T.intN (by decide +kernel) rfl) pa_nil))) (pe_one (pe_not (pe_callB call_isi (by rfl) T.isinstanceN (by decide +kernel) (pa_cons (pv 0) (pa_cons (pe_bltn (v := .ty "bool") (by rfl) T.boolN (by decide +kernel) rfl) pa_nil)))))))), ?_⟩
    refine ⟨_, rfl, _, _, _, _, _, rfl, .ty "int", hv.ty, kit_int hv, _, rfl, ?_⟩
    refine ite2 (fun e => ?_) (fun e => ?_)
    · refine ⟨_, rfl, _, _, _, _, _, rfl, .ty "bool", hv.ty, kit_bl hv, _, rfl, ?_⟩
      have q : (!d.isBl) = isWhole d := by cases d <;> first | rfl | cases e
      rw [q]
      exact k H (.refl H)
    · have q : isWhole d = false := by cases d <;> first | rfl | exact absurd rfl e
      have z := k H (.refl H)
      rw [q] at z
      exact z
abbrev s_is_name : Stmt := top 4
theorem sc_is_name : FnScope ["thing", "sign"] ["thing"] (defScope s_is_name) := ⟨rfl, rfl, rfl, by decide +kernel, rfl, by decide +kernel, by decide +kernel⟩
theorem ok_is_name {f : Addr} {fd : FuncData} (F : Fun K "is_name" "is_name" s_is_name f fd) (T : Bl mg) :
    Fn P w K mg base CX0 2 f fd ["thing"] (spB K Wd isName) := by
  refine fn_calm F sc_is_name (fun vs H Q E h => ?_) (fun cdv A outer s H vs Q E hc hr h => ?_)
  · obtain ⟨v, d, rfl, _⟩ := h
    rfl
  · obtain ⟨v, d, rfl, hv, hw, k⟩ := h
    refine ⟨_, (pss_cons (ps_if (PW.pt (pw_or (pt_not (pt_val (pe_callB call_isi (by rfl) T.isinstanceN (by decide +kernel) (pa_cons (pv 0) (pa_cons (pe_bltn (v := .ty "str") (by rfl) T.strN (by decide +kernel) rfl) pa_nil))))) (pw_or1 (pt_not (pt_chain op_le op_le pe_int (pe_callB call_len_str (by rfl) T.lenN (by decide +kernel) (pa_cons (pv 0) pa_nil)) pe_int)))))
  (pss_one (ps_ret pe_bl))
  pss_nil)
 (pss_one (ps_ret (pe_callB (cr_all rfl) (by rfl) T.allN (by decide +kernel) (pa_cons (pe_lc (own := [("sign", 1)]) (g := gName 1) (tt := tYes) rfl sc_is_name.nd (pi_str (pv 0)) (blkOk_by (N := ["thing", "sign"]) (sc := defScope s_is_name) (by decide +kernel)) (fun _ _ _ _ _ => (pg_name (i := 1) sc_is_name.nd rfl (Or.inl rfl))) (fun _ _ _ _ _ => pts_nil) (fun _ _ _ _ _ => (pe_chain op_le_str op_le_str pe_str (pv 1) pe_str))) pa_nil))))), ?_⟩
    refine ⟨_, rfl, _, _, _, _, _, rfl, .ty "str", hv.ty, kit_str hv, _, rfl, ?_⟩
    cases d with
    | str x =>
      cases (show v = V.str x from hv)
      refine iteF ?_
      have hx : x.length ≤ sizeLine := Nat.le_trans (wd_str hw) (by decide)
      have no : ∀ H', Same H H' → isName (.str x) = false → Q (.bl false) H' := fun H' s e => by
        have z := k H' s
        rw [e] at z
        exact z
      refine ⟨_, rfl, _, rfl, hx, _, _, rfl, rfl, _, rfl, ?_⟩
      refine ite2 (fun e1 => ?_) (fun e1 => ?_)
      · refine ⟨_, _, rfl, rfl, _, rfl, ?_⟩
        have h1 : 1 ≤ x.length := by have := of_decide_eq_true e1; omega
        refine ite2 (fun e2 => ?_) (fun e2 => ?_)
        · refine no H (.refl H) ?_
          have h2 : ¬ x.length ≤ 8 := fun z => by
            have : decide (((x.length : Nat) : Int) ≤ 8) = true := decide_eq_true (by omega)
            rw [this] at e2
            cases e2
          show nameOk x = false
          unfold nameOk
          rw [decide_eq_false h2]
          simp
        · have h2 : x.length ≤ 8 := Decidable.byContradiction fun z => e2 (by
            have : decide (((x.length : Nat) : Int) ≤ 8) = false := decide_eq_false (by omega)
            rw [this]; rfl)
          refine ⟨_, rfl, x, rfl, fun D hD => lc_map walk_str x.cps.toList (fun c => .bl (lower c)) (by simp) ?_ hD (fun _ _ => trivial) ?_ ?_⟩
          · have : x.cps.size = x.length := rfl
            rw [this]
            exact Nat.lt_of_le_of_lt h2 (by decide)
          · rintro i c y H1 H2 Kt hc hs ⟨rfl, c', hc', rfl⟩ kt
            refine ⟨rfl, ?_⟩
            obtain rfl : c' = c := by
              rw [← Array.getElem?_toList, hc] at hc'
              exact (Option.some.inj hc').symm
            have z := kt _ (.refl _)
            unfold lower at z
            refine ⟨_, rfl, _, _, rfl, rfl, _, rfl, ?_⟩
            rw [(lower_test c').1]
            refine ite2 (fun e3 => ?_) (fun e3 => ?_)
            · refine ⟨_, _, rfl, rfl, ?_⟩
              rw [(lower_test c').2]
              rw [e3] at z
              exact z
            · have e4 : decide (97 ≤ c') = false := Bool.not_eq_true _ ▸ e3
              rw [e4] at z
              exact z
          · intro H1 hs hd
            refine ⟨D, x.cps.toList.map lower, rfl, ?_, ?_⟩
            · refine SqL.of ?_
              rw [List.map_map]
              exact hd
            · have z := k H1 hs
              have q : isName (.str x) = (x.cps.toList.map lower).all id := by
                show nameOk x = _
                unfold nameOk
                rw [decide_eq_true h1, decide_eq_true h2, List.all_map]
                rfl
              rw [q] at z
              exact z
      · refine ⟨_, rfl, iteT (no H (.refl H) ?_)⟩
        have h1 : ¬ 1 ≤ x.length := fun z => e1 (decide_eq_true (by omega))
        show nameOk x = false
        unfold nameOk
        rw [decide_eq_false h1]
        rfl
    | _ => exact iteT (iteT (k H (.refl H)))
end
end K

set_option Elab.async false
set_option linter.all false
set_option maxRecDepth 100000
set_option maxHeartbeats 8000000
namespace K
open PySem PySem.Spec PyProof.Rows L2 G D L S C Sx
open C8 (pss_cut tCut)
open PySem.W (dataLt alike)
def strOf : Dat → Str
  | .str x => x
  | _ => Str.empty
/-- different names -/
def namesIn (ds : List Dat) : Bool := ds.all isName && decide ((ds.map strOf).Nodup)
def areNames : Dat → Bool
  | .lst ds => namesIn ds
  | .tup ds => namesIn ds
  | _ => false
def isPair : Dat → Bool
  | .tup [a, b] => isName a && isName b
  | _ => false
def arePairs : Dat → Bool
  | .lst ds => ds.all isPair
  | .tup ds => ds.all isPair
  | _ => false
theorem names_strs : ∀ {ds : List Dat}, ds.all isName = true → ds = (ds.map strOf).map Dat.str
  | [], _ => rfl
  | d :: ds, h => by
    rw [List.all_cons, Bool.and_eq_true] at h
    have ih := names_strs h.2
    cases d with
    | str x =>
      rw [List.map_cons, List.map_cons, ← ih]
      rfl
    | _ => cases h.1
theorem all_map_id {α : Type} (f : α → Bool) (xs : List α) : (xs.map f).all id = xs.all f := by rw [List.all_map]; rfl
theorem map_bl {α : Type} (f : α → Bool) (xs : List α) : (xs.map fun a => V.bl (f a)) = (xs.map f).map V.bl := by rw [List.map_map]; rfl
section
variable {P : Program} {w : World} {K : PySem.W.Frag} {mg : Str → Option Value} {base : Heap}
abbrev s_are_names : Stmt := top 5
theorem sc_are_names : FnScope ["thing", "part"] ["thing"] (defScope s_are_names) := ⟨rfl, rfl, rfl, by decide +kernel, rfl, by decide +kernel, by decide +kernel⟩
theorem names_end {ds : List Dat} {vs : List V} {H : Hp} (hr : RepAll K H vs ds) (hn : ds.all isName = true) :
    vs = (ds.map strOf).map V.str ∧ (decide (V.int (cnt (ds.map strOf) (ds.map strOf).length : Nat) = V.int (vs.length : Nat))) = namesIn ds := by
  have e := names_strs hn
  have e2 : vs = (ds.map strOf).map V.str := RepAll.strs (K := K) (H := H) (by rw [← e]; exact hr)
  refine ⟨e2, ?_⟩
  have hl : vs.length = (ds.map strOf).length := by rw [e2, List.length_map]
  unfold namesIn
  rw [hn, Bool.true_and, hl]
  have c := cnt_all (ds.map strOf) (ds.map strOf).length (Nat.le_refl _)
  rw [List.take_length] at c
  by_cases q : (ds.map strOf).Nodup
  · rw [decide_eq_true q, c.mpr q]
    simp
  · rw [decide_eq_false q]
    exact decide_eq_false fun z => q (c.mp (Int.ofNat.inj (V.int.inj z)))
theorem ok_are_names {f : Addr} {fd : FuncData} (F : Fun K "are_names" "are_names" s_are_names f fd) (T : Bl mg)
    (D_is_name : Def P w K mg base 2 "is_name" ["thing"] (spB K Wd isName)) :
    Fn P w K mg base CX0 3 f fd ["thing"] (spB K (fun d => Wd d ∧ ∀ ds, d = .lst ds ∨ d = .tup ds → ds.length < 4000) areNames) := by
  refine fn_calm F sc_are_names (fun vs H Q E h => ?_) (fun cdv A outer s H vs Q E hc hr h => ?_)
  · obtain ⟨v, d, rfl, _⟩ := h
    rfl
  · obtain ⟨v, d, rfl, hv, ⟨hw, h4⟩, k⟩ := h
    have no : ∀ H', Same H H' → areNames d = false → Q (.bl false) H' := fun H' s e => by
      have z := k H' s
      rw [e] at z
      exact z
    cases d with
    | lst ds =>
      refine ⟨_, (pss_cons (ps_if (PW.pt (pw_or (pt_not (pt_val (pe_callB call_isiT (by rfl) T.isinstanceN (by decide +kernel) (pa_cons (pv 0) (pa_cons (pe_tup (pa_cons (pe_bltn (v := .ty "list") (by rfl) T.listN (by decide +kernel) rfl) (pa_cons (pe_bltn (v := .ty "tuple") (by rfl) T.tupleN (by decide +kernel) rfl) pa_nil))) pa_nil))))) (pw_or1 (pt_not (pt_val (pe_callB (cr_all rfl) (by rfl) T.allN (by decide +kernel) (pa_cons (pe_lc (own := [("part", 1)]) (g := gName 1) (tt := tYes) rfl sc_are_names.nd (pi_list (pv 0)) (blkOk_by (N := ["thing", "part"]) (sc := defScope s_are_names) (by decide +kernel)) (fun _ _ _ _ _ => (pg_name (i := 1) sc_are_names.nd rfl (Or.inl rfl))) (fun _ _ _ _ _ => pts_nil) (fun _ _ _ _ _ => (pe_def D_is_name hc (hr.mono (by decide)) (pa_cons (pv 1) pa_nil)))) pa_nil)))))))
  (pss_one (ps_ret pe_bl))
  pss_nil)
 (pss_one (ps_ret (pe_cmpR op_eq (pe_lenSetS rfl (by rfl) T.lenN (by rfl) T.setN (pv 0)) (pe_callB call_len_seq (by rfl) T.lenN (by decide +kernel) (pa_cons (pv 0) pa_nil)) (nomark _))))), ?_⟩
      refine ⟨_, rfl, by show 2 ≤ sizeLine; decide, fun p hp => ?_⟩
      have s1 := same_upd (o := .tup [.ty "list", .ty "tuple"]) hp
      have hv1 := Rep.mono s1 _ hv
      refine ⟨_, p, _, _, _, _, rfl, upd_same, .cons (.ty _) (.cons (.ty _) .nil), hv1.ty, kit_seq hv1, _, rfl, ?_⟩
      refine iteF ?_
      obtain ⟨a, xs, rfl, ha, hx⟩ := hv1
      refine ⟨_, rfl, a, rfl, ⟨xs, SqL.of ha⟩, fun D hD => lc_map (walk_list (xs := xs)) ds (fun d => .bl (isName d)) hx.length.symm ?_ hD (fun H' s => SqL.of (s _ _ ha)) ?_ ?_⟩
      · rw [hx.length]
        exact Nat.lt_of_le_of_lt (wd_lst hw).1 (by decide)
      · rintro i d y H1 H2 Kt hd hs ⟨rfl, hy⟩ kt
        obtain ⟨d', hd', hr'⟩ := hx.get hy
        obtain rfl : d' = d := Option.some.inj (hd'.symm.trans hd)
        exact ⟨rfl, _, rfl, y, d', rfl, Rep.mono hs _ hr', (wd_lst hw).2 _ (List.mem_of_getElem? hd), fun H' s => kt H' s⟩
      · intro H1 hs hd
        refine ⟨D, ds.map isName, rfl, SqL.of (by rw [← map_bl]; exact hd), _, rfl, ?_⟩
        rw [all_map_id]
        have s2 := s1.trans hs
        refine ite2 (fun e => ?_) (fun e => ?_)
        · exact no H1 s2 (by
            show namesIn ds = false
            unfold namesIn
            have : ds.all isName = false := by simpa using e
            rw [this]; rfl)
        · have hn : ds.all isName = true := by simpa using e
          obtain ⟨ev, eq⟩ := names_end (RepAll.mono hs _ hx) hn
          have ha2 := hs _ _ ha
          refine ⟨_, rfl, a, ds.map strOf, rfl, .inl (by rw [← ev]; exact ha2), by rw [List.length_map]; exact h4 ds (.inl rfl), ?_⟩
          refine ⟨_, rfl, a, _, rfl, .inl (SqL.of ha2), rfl, ?_⟩
          rw [eq]
          exact k H1 s2
    | tup ds =>
      refine ⟨_, (pss_cons (ps_if (PW.pt (pw_or (pt_not (pt_val (pe_callB call_isiT (by rfl) T.isinstanceN (by decide +kernel) (pa_cons (pv 0) (pa_cons (pe_tup (pa_cons (pe_bltn (v := .ty "list") (by rfl) T.listN (by decide +kernel) rfl) (pa_cons (pe_bltn (v := .ty "tuple") (by rfl) T.tupleN (by decide +kernel) rfl) pa_nil))) pa_nil))))) (pw_or1 (pt_not (pt_val (pe_callB (cr_all rfl) (by rfl) T.allN (by decide +kernel) (pa_cons (pe_lc (own := [("part", 1)]) (g := gName 1) (tt := tYes) rfl sc_are_names.nd (pi_tup (pv 0)) (blkOk_by (N := ["thing", "part"]) (sc := defScope s_are_names) (by decide +kernel)) (fun _ _ _ _ _ => (pg_name (i := 1) sc_are_names.nd rfl (Or.inl rfl))) (fun _ _ _ _ _ => pts_nil) (fun _ _ _ _ _ => (pe_def D_is_name hc (hr.mono (by decide)) (pa_cons (pv 1) pa_nil)))) pa_nil)))))))
  (pss_one (ps_ret pe_bl))
  pss_nil)
 (pss_one (ps_ret (pe_cmpR op_eq (pe_lenSetS rfl (by rfl) T.lenN (by rfl) T.setN (pv 0)) (pe_callB call_len_seq (by rfl) T.lenN (by decide +kernel) (pa_cons (pv 0) pa_nil)) (nomark _))))), ?_⟩
      refine ⟨_, rfl, by show 2 ≤ sizeLine; decide, fun p hp => ?_⟩
      have s1 := same_upd (o := .tup [.ty "list", .ty "tuple"]) hp
      have hv1 := Rep.mono s1 _ hv
      refine ⟨_, p, _, _, _, _, rfl, upd_same, .cons (.ty _) (.cons (.ty _) .nil), hv1.ty, kit_seq hv1, _, rfl, ?_⟩
      refine iteF ?_
      obtain ⟨a, xs, rfl, ha, hx⟩ := hv1
      refine ⟨_, rfl, a, rfl, ⟨xs, SqT.of ha⟩, fun D hD => lc_map (walk_tup (xs := xs)) ds (fun d => .bl (isName d)) hx.length.symm ?_ hD (fun H' s => SqT.of (s _ _ ha)) ?_ ?_⟩
      · rw [hx.length]
        exact Nat.lt_of_le_of_lt (wd_tup hw).1 (by decide)
      · rintro i d y H1 H2 Kt hd hs ⟨rfl, hy⟩ kt
        obtain ⟨d', hd', hr'⟩ := hx.get hy
        obtain rfl : d' = d := Option.some.inj (hd'.symm.trans hd)
        exact ⟨rfl, _, rfl, y, d', rfl, Rep.mono hs _ hr', (wd_tup hw).2 _ (List.mem_of_getElem? hd), fun H' s => kt H' s⟩
      · intro H1 hs hd
        refine ⟨D, ds.map isName, rfl, SqL.of (by rw [← map_bl]; exact hd), _, rfl, ?_⟩
        rw [all_map_id]
        have s2 := s1.trans hs
        refine ite2 (fun e => ?_) (fun e => ?_)
        · exact no H1 s2 (by
            show namesIn ds = false
            unfold namesIn
            have : ds.all isName = false := by simpa using e
            rw [this]; rfl)
        · have hn : ds.all isName = true := by simpa using e
          obtain ⟨ev, eq⟩ := names_end (RepAll.mono hs _ hx) hn
          have ha2 := hs _ _ ha
          refine ⟨_, rfl, a, ds.map strOf, rfl, .inr (by rw [← ev]; exact ha2), by rw [List.length_map]; exact h4 ds (.inr rfl), ?_⟩
          refine ⟨_, rfl, a, _, rfl, .inr (SqT.of ha2), rfl, ?_⟩
          rw [eq]
          exact k H1 s2
    | _ =>
      refine ⟨_, (pss_cons (ps_if (PW.pt (pw_or (pt_not (pt_val (pe_callB call_isiT (by rfl) T.isinstanceN (by decide +kernel) (pa_cons (pv 0) (pa_cons (pe_tup (pa_cons (pe_bltn (v := .ty "list") (by rfl) T.listN (by decide +kernel) rfl) (pa_cons (pe_bltn (v := .ty "tuple") (by rfl) T.tupleN (by decide +kernel) rfl) pa_nil))) pa_nil))))) (pw_or1 (pt_not (pt_val (pe_callB (cr_all rfl) (by rfl) T.allN (by decide +kernel) (pa_cons (pe_lc (own := [("part", 1)]) (g := gName 1) (tt := tYes) rfl sc_are_names.nd (pi_list (pv 0)) (blkOk_by (N := ["thing", "part"]) (sc := defScope s_are_names) (by decide +kernel)) (fun _ _ _ _ _ => (pg_name (i := 1) sc_are_names.nd rfl (Or.inl rfl))) (fun _ _ _ _ _ => pts_nil) (fun _ _ _ _ _ => (pe_def D_is_name hc (hr.mono (by decide)) (pa_cons (pv 1) pa_nil)))) pa_nil)))))))
  (pss_one (ps_ret pe_bl))
  pss_nil)
 (pss_one (ps_ret (pe_cmpR op_eq (pe_lenSetS rfl (by rfl) T.lenN (by rfl) T.setN (pv 0)) (pe_callB call_len_seq (by rfl) T.lenN (by decide +kernel) (pa_cons (pv 0) pa_nil)) (nomark _))))), ?_⟩
      refine ⟨_, rfl, by show 2 ≤ sizeLine; decide, fun p hp => ?_⟩
      have s1 := same_upd (o := .tup [.ty "list", .ty "tuple"]) hp
      have hv1 := Rep.mono s1 _ hv
      refine ⟨_, p, _, _, _, _, rfl, upd_same, .cons (.ty _) (.cons (.ty _) .nil), hv1.ty, kit_seq hv1, _, rfl, ?_⟩
      exact iteT (iteT (no _ s1 rfl))
end
end K

set_option Elab.async false
set_option linter.all false
set_option maxRecDepth 100000
set_option maxHeartbeats 8000000
namespace K
open PySem PySem.Spec PyProof.Rows L2 G D L S C Sx Kx
open C8 (pss_cut tCut)
open PySem.W (dataLt alike)
theorem dint {i j : Int} : decide (V.int i = V.int j) = decide (i = j) := by
  by_cases h : i = j
  · subst h; simp
  · simp [h]
theorem dnat {i j : Nat} : decide (V.int (i : Nat) = V.int (j : Nat)) = decide (i = j) := by
  rw [dint]
  by_cases h : i = j
  · subst h; simp
  · rw [decide_eq_false h, decide_eq_false]; omega
/-- ascending, each less than the next -/
def asc : List Dat → Bool
  | a :: b :: r => dataLt a.py b.py && asc (b :: r)
  | _ => true
def isWish : Dat → Bool
  | .tup ds => !ds.isEmpty && ds.all isPair && asc ds
  | _ => false
def isGiven (d : Dat) : Bool := isName d || d.isThe ""
def isDeed : Dat → Bool
  | .tup [k, a] => k.isThe "throw" && isName a
  | .tup [k, a, b, c] => !k.isThe "throw" && isName a && isName b &&
      (if k.isThe "hand" then decide (strOf a ≠ strOf b) && isName c else k.isThe "call" && isGiven c)
  | _ => false
section
variable {P : Program} {w : World} {K : PySem.W.Frag} {mg : Str → Option Value} {base : Heap}
abbrev s_is_pair : Stmt := top 6
theorem sc_is_pair : FnScope ["thing"] ["thing"] (defScope s_is_pair) := ⟨rfl, rfl, rfl, by decide +kernel, rfl, by decide +kernel, by decide +kernel⟩
theorem ok_is_pair {f : Addr} {fd : FuncData} (F : Fun K "is_pair" "is_pair" s_is_pair f fd) (T : Bl mg)
    (D_is_name : Def P w K mg base 2 "is_name" ["thing"] (spB K Wd isName)) :
    Fn P w K mg base CX0 3 f fd ["thing"] (spB K Wd isPair) := by
  refine fn_calm F sc_is_pair (fun vs H Q E h => ?_) (fun cdv A outer s H vs Q E hc hr h => ?_)
  · obtain ⟨v, d, rfl, _⟩ := h
    rfl
  · obtain ⟨v, d, rfl, hv, hw, k⟩ := h
    have no : ∀ H', Same H H' → isPair d = false → Q (.bl false) H' := fun H' s e => by
      have z := k H' s
      rw [e] at z
      exact z
    refine ⟨_, (pss_one (ps_ret (pe_and (pe_callB call_isi (by rfl) T.isinstanceN (by decide +kernel) (pa_cons (pv 0) (pa_cons (pe_bltn (v := .ty "tuple") (by rfl) T.tupleN (by decide +kernel) rfl) pa_nil))) (pe_and (pe_cmpR op_eq (pe_callB call_len_seq (by rfl) T.lenN (by decide +kernel) (pa_cons (pv 0) pa_nil)) pe_int (nomark _)) (pe_and (pe_def D_is_name hc (hr.mono (by decide)) (pa_cons (pe_ix ix_tup (pv 0) pe_int (fun _ _ => rfl)) pa_nil)) (pe_one (pe_def D_is_name hc (hr.mono (by decide)) (pa_cons (pe_ix ix_tup (pv 0) pe_int (fun _ _ => rfl)) pa_nil)))))))), ?_⟩
    refine ⟨_, rfl, _, _, _, _, _, rfl, .ty "tuple", hv.ty, kit_tup hv, _, rfl, ?_⟩
    cases d with
    | tup ds =>
      refine iteT ?_
      obtain ⟨a, xs, rfl, ha, hx⟩ := hv
      refine ⟨_, rfl, a, _, rfl, .inr (SqT.of ha), rfl, _, rfl, ?_⟩
      rw [dint]
      refine ite2 (fun e => ?_) (fun e => ?_)
      · have e2 : xs.length = 2 := by have := of_decide_eq_true e; omega
        have e3 : ds.length = 2 := by rw [← hx.length]; exact e2
        match ds, xs, e3, hx with
        | [d1, d2], _, _, ⟨x1, _, rfl, h1, x2, _, rfl, h2, rfl⟩ =>
          have w1 := (wd_tup hw).2 d1 (by simp)
          have w2 := (wd_tup hw).2 d2 (by simp)
          refine ⟨_, rfl, a, _, _, _, rfl, rfl, SqT.of ha, rfl, x1, d1, rfl, h1, w1, fun H1 s1 => ⟨_, rfl, ?_⟩⟩
          refine ite2 (fun e => ?_) (fun e => ?_)
          · refine ⟨_, rfl, a, _, _, _, rfl, rfl, SqT.of (s1 _ _ ha), rfl, x2, d2, rfl, Rep.mono s1 _ h2, w2, fun H2 s2 => ?_⟩
            have z := k H2 (s1.trans s2)
            have q : isPair (.tup [d1, d2]) = isName d2 := by show (isName d1 && isName d2) = _; rw [e]; rfl
            rw [q] at z
            exact z
          · refine no H1 s1 ?_
            show (isName d1 && isName d2) = false
            rw [show isName d1 = false by simpa using e]
            rfl
      · refine no H (.refl H) ?_
        have e2 : ¬ ds.length = 2 := fun z => e (decide_eq_true (by rw [hx.length, z]; rfl))
        match ds, e2 with
        | [], _ => rfl
        | [_], _ => rfl
        | _ :: _ :: _ :: _, _ => rfl
        | [_, _], q => exact absurd rfl q
    | _ => exact iteF (no H (.refl H) rfl)
abbrev s_are_pairs_of_names : Stmt := top 7
theorem sc_are_pairs_of_names : FnScope ["thing", "part"] ["thing"] (defScope s_are_pairs_of_names) := ⟨rfl, rfl, rfl, by decide +kernel, rfl, by decide +kernel, by decide +kernel⟩
theorem ok_are_pairs {f : Addr} {fd : FuncData} (F : Fun K "are_pairs_of_names" "are_pairs_of_names" s_are_pairs_of_names f fd) (T : Bl mg)
    (D_is_pair : Def P w K mg base 3 "is_pair" ["thing"] (spB K Wd isPair)) :
    Fn P w K mg base CX0 4 f fd ["thing"] (spB K Wd arePairs) := by
  refine fn_calm F sc_are_pairs_of_names (fun vs H Q E h => ?_) (fun cdv A outer s H vs Q E hc hr h => ?_)
  · obtain ⟨v, d, rfl, _⟩ := h
    rfl
  · obtain ⟨v, d, rfl, hv, hw, k⟩ := h
    cases d with
    | lst ds =>
      refine ⟨_, (pss_one (ps_ret (pe_and (pe_callB call_isiT (by rfl) T.isinstanceN (by decide +kernel) (pa_cons (pv 0) (pa_cons (pe_tup (pa_cons (pe_bltn (v := .ty "list") (by rfl) T.listN (by decide +kernel) rfl) (pa_cons (pe_bltn (v := .ty "tuple") (by rfl) T.tupleN (by decide +kernel) rfl) pa_nil))) pa_nil))) (pe_one (pe_callB (cr_all rfl) (by rfl) T.allN (by decide +kernel) (pa_cons (pe_lc (own := [("part", 1)]) (g := gName 1) (tt := tYes) rfl sc_are_pairs_of_names.nd (pi_list (pv 0)) (blkOk_by (N := ["thing", "part"]) (sc := defScope s_are_pairs_of_names) (by decide +kernel)) (fun _ _ _ _ _ => (pg_name (i := 1) sc_are_pairs_of_names.nd rfl (Or.inl rfl))) (fun _ _ _ _ _ => pts_nil) (fun _ _ _ _ _ => (pe_def D_is_pair hc (hr.mono (by decide)) (pa_cons (pv 1) pa_nil)))) pa_nil)))))), ?_⟩
      refine ⟨_, rfl, by show 2 ≤ sizeLine; decide, fun p hp => ?_⟩
      have s1 := same_upd (o := .tup [.ty "list", .ty "tuple"]) hp
      have hv1 := Rep.mono s1 _ hv
      refine ⟨_, p, _, _, _, _, rfl, upd_same, .cons (.ty _) (.cons (.ty _) .nil), hv1.ty, kit_seq hv1, _, rfl, ?_⟩
      refine iteT ?_
      obtain ⟨a, xs, rfl, ha, hx⟩ := hv1
      refine ⟨_, rfl, a, rfl, ⟨xs, SqL.of ha⟩, fun D hD => lc_map (walk_list (xs := xs)) ds (fun d => .bl (isPair d)) hx.length.symm ?_ hD (fun H' s => SqL.of (s _ _ ha)) ?_ ?_⟩
      · rw [hx.length]
        exact Nat.lt_of_le_of_lt (wd_lst hw).1 (by decide)
      · rintro i d y H1 H2 Kt hd hs ⟨rfl, hy⟩ kt
        obtain ⟨d', hd', hr'⟩ := hx.get hy
        obtain rfl : d' = d := Option.some.inj (hd'.symm.trans hd)
        exact ⟨rfl, _, rfl, y, d', rfl, Rep.mono hs _ hr', (wd_lst hw).2 _ (List.mem_of_getElem? hd), fun H' s => kt H' s⟩
      · intro H1 hs hd
        refine ⟨D, ds.map isPair, rfl, SqL.of (by rw [← map_bl]; exact hd), ?_⟩
        rw [all_map_id]
        exact k H1 (s1.trans hs)
    | tup ds =>
      refine ⟨_, (pss_one (ps_ret (pe_and (pe_callB call_isiT (by rfl) T.isinstanceN (by decide +kernel) (pa_cons (pv 0) (pa_cons (pe_tup (pa_cons (pe_bltn (v := .ty "list") (by rfl) T.listN (by decide +kernel) rfl) (pa_cons (pe_bltn (v := .ty "tuple") (by rfl) T.tupleN (by decide +kernel) rfl) pa_nil))) pa_nil))) (pe_one (pe_callB (cr_all rfl) (by rfl) T.allN (by decide +kernel) (pa_cons (pe_lc (own := [("part", 1)]) (g := gName 1) (tt := tYes) rfl sc_are_pairs_of_names.nd (pi_tup (pv 0)) (blkOk_by (N := ["thing", "part"]) (sc := defScope s_are_pairs_of_names) (by decide +kernel)) (fun _ _ _ _ _ => (pg_name (i := 1) sc_are_pairs_of_names.nd rfl (Or.inl rfl))) (fun _ _ _ _ _ => pts_nil) (fun _ _ _ _ _ => (pe_def D_is_pair hc (hr.mono (by decide)) (pa_cons (pv 1) pa_nil)))) pa_nil)))))), ?_⟩
      refine ⟨_, rfl, by show 2 ≤ sizeLine; decide, fun p hp => ?_⟩
      have s1 := same_upd (o := .tup [.ty "list", .ty "tuple"]) hp
      have hv1 := Rep.mono s1 _ hv
      refine ⟨_, p, _, _, _, _, rfl, upd_same, .cons (.ty _) (.cons (.ty _) .nil), hv1.ty, kit_seq hv1, _, rfl, ?_⟩
      refine iteT ?_
      obtain ⟨a, xs, rfl, ha, hx⟩ := hv1
      refine ⟨_, rfl, a, rfl, ⟨xs, SqT.of ha⟩, fun D hD => lc_map (walk_tup (xs := xs)) ds (fun d => .bl (isPair d)) hx.length.symm ?_ hD (fun H' s => SqT.of (s _ _ ha)) ?_ ?_⟩
      · rw [hx.length]
        exact Nat.lt_of_le_of_lt (wd_tup hw).1 (by decide)
      · rintro i d y H1 H2 Kt hd hs ⟨rfl, hy⟩ kt
        obtain ⟨d', hd', hr'⟩ := hx.get hy
        obtain rfl : d' = d := Option.some.inj (hd'.symm.trans hd)
        exact ⟨rfl, _, rfl, y, d', rfl, Rep.mono hs _ hr', (wd_tup hw).2 _ (List.mem_of_getElem? hd), fun H' s => kt H' s⟩
      · intro H1 hs hd
        refine ⟨D, ds.map isPair, rfl, SqL.of (by rw [← map_bl]; exact hd), ?_⟩
        rw [all_map_id]
        exact k H1 (s1.trans hs)
    | _ =>
      refine ⟨_, (pss_one (ps_ret (pe_and (pe_callB call_isiT (by rfl) T.isinstanceN (by decide +kernel) (pa_cons (pv 0) (pa_cons (pe_tup (pa_cons (pe_bltn (v := .ty "list") (by rfl) T.listN (by decide +kernel) rfl) (pa_cons (pe_bltn (v := .ty "tuple") (by rfl) T.tupleN (by decide +kernel) rfl) pa_nil))) pa_nil))) (pe_one (pe_callB (cr_all rfl) (by rfl) T.allN (by decide +kernel) (pa_cons (pe_lc (own := [("part", 1)]) (g := gName 1) (tt := tYes) rfl sc_are_pairs_of_names.nd (pi_list (pv 0)) (blkOk_by (N := ["thing", "part"]) (sc := defScope s_are_pairs_of_names) (by decide +kernel)) (fun _ _ _ _ _ => (pg_name (i := 1) sc_are_pairs_of_names.nd rfl (Or.inl rfl))) (fun _ _ _ _ _ => pts_nil) (fun _ _ _ _ _ => (pe_def D_is_pair hc (hr.mono (by decide)) (pa_cons (pv 1) pa_nil)))) pa_nil)))))), ?_⟩
      refine ⟨_, rfl, by show 2 ≤ sizeLine; decide, fun p hp => ?_⟩
      have s1 := same_upd (o := .tup [.ty "list", .ty "tuple"]) hp
      have hv1 := Rep.mono s1 _ hv
      refine ⟨_, p, _, _, _, _, rfl, upd_same, .cons (.ty _) (.cons (.ty _) .nil), hv1.ty, kit_seq hv1, _, rfl, ?_⟩
      exact iteF (k _ s1)
abbrev s_is_given : Stmt := top 9
theorem sc_is_given : FnScope ["thing"] ["thing"] (defScope s_is_given) := ⟨rfl, rfl, rfl, by decide +kernel, rfl, by decide +kernel, by decide +kernel⟩
theorem ok_is_given {f : Addr} {fd : FuncData} (F : Fun K "is_given" "is_given" s_is_given f fd) (T : Bl mg)
    (D_is_name : Def P w K mg base 2 "is_name" ["thing"] (spB K Wd isName)) :
    Fn P w K mg base CX0 3 f fd ["thing"] (spB K (fun d => Wd d ∧ d.noObj = true) isGiven) := by
  refine fn_calm F sc_is_given (fun vs H Q E h => ?_) (fun cdv A outer s H vs Q E hc hr h => ?_)
  · obtain ⟨v, d, rfl, _⟩ := h
    rfl
  · obtain ⟨v, d, rfl, hv, ⟨hw, hn⟩, k⟩ := h
    have hu := hu_of hr
    refine ⟨_, (pss_one (ps_ret (pe_or (pe_def D_is_name hc (hr.mono (by decide)) (pa_cons (pv 0) pa_nil)) (pe_one (pe_cmpR (op_eq_str hu) (pv 0) pe_str (nomark _)))))), ?_⟩
    refine ⟨_, rfl, v, d, rfl, hv, hw, fun H1 s1 => ⟨_, rfl, ?_⟩⟩
    have z := k H1 s1
    unfold isGiven at z
    refine ite2 (fun e => ?_) (fun e => ?_)
    · rw [e] at z
      exact z
    · refine ⟨_, rfl, d, "", Rep.mono s1 _ hv, hn, rfl, ?_⟩
      rw [show isName d = false by simpa using e, Bool.false_or] at z
      exact z
abbrev s_is_wish : Stmt := top 8
theorem sc_is_wish : FnScope ["thing", "one", "other"] ["thing"] (defScope s_is_wish) := ⟨rfl, rfl, rfl, by decide +kernel, rfl, by decide +kernel, by decide +kernel⟩
theorem asc_zip : ∀ (d : Dat) (ds : List Dat), asc (d :: ds) = (((d :: ds).zip ds).all fun p => dataLt p.1.py p.2.py)
  | _, [] => rfl
  | d, e :: r => by
    show (dataLt d.py e.py && asc (e :: r)) = _
    rw [asc_zip e r, List.zip_cons_cons, List.all_cons]
theorem pair_alike {d e : Dat} (hd : isPair d = true) (he : isPair e = true) : d.pure = true ∧ e.pure = true ∧ alike d.py e.py = true ∧ d.py ≠ .none ∧ d.py.depth ≤ 40 := by
  match d, hd with
  | .tup [a, b], hd =>
    match e, he with
    | .tup [a', b'], he =>
      have h1 : (isName a && isName b) = true := hd
      have h2 : (isName a' && isName b') = true := he
      rw [Bool.and_eq_true] at h1 h2
      cases a with
      | str x =>
        cases b with
        | str y =>
          cases a' with
          | str x' =>
            cases b' with
            | str y' =>
              refine ⟨rfl, rfl, ?_, ?_, ?_⟩
              · simp [Dat.py, pyAll, alike, PySem.W.alikeAll]
              · simp [Dat.py]
              · simp [Dat.py, pyAll, PyData.depth, PyData.depthAll]
            | _ => cases h2.2
          | _ => cases h2.1
        | _ => cases h1.2
      | _ => cases h1.1
theorem walk_zipT {a b : Addr} {xs ys : List V} {n : Nat} (hn : n = min xs.length ys.length) :
    Walk (RZ.ItzT K a b) n (fun H => SqT K H a xs ∧ SqT K H b ys) (YPair (fun i => xs[i]?) (fun i => ys[i]?)) := by
  subst hn
  constructor
  · intro i _ hi q
    have h1 : i < xs.length := by omega
    have h2 : i < ys.length := by omega
    exact ⟨xs, ys, xs[i], ys[i], q.1, q.2, by simp [h1], by simp [h2]⟩
  · intro _ q
    exact ⟨xs, ys, q.1, q.2, by omega⟩
  · rintro i H v H' _ q ⟨T, x, z, h1, h2, h3, h4, h5⟩
    exact ⟨T, x, z, h1, h2, h3, h4 xs q.1, h5 ys q.2⟩
theorem ok_is_wish {f : Addr} {fd : FuncData} (F : Fun K "is_wish" "is_wish" s_is_wish f fd) (T : Bl mg)
    (D_are_pairs_of_names : Def P w K mg base 4 "are_pairs_of_names" ["thing"] (spB K Wd arePairs)) :
    Fn P w K mg base CX0 5 f fd ["thing"] (spB K Wd isWish) := by
  refine fn_calm F sc_is_wish (fun vs H Q E h => ?_) (fun cdv A outer s H vs Q E hc hr h => ?_)
  · obtain ⟨v, d, rfl, _⟩ := h
    rfl
  · obtain ⟨v, d, rfl, hv, hw, k⟩ := h
    have no : ∀ H', Same H H' → isWish d = false → Q (.bl false) H' := fun H' s e => by
      have z := k H' s
      rw [e] at z
      exact z
    have hu64 := hr.units
    refine ⟨_, (pss_cons (ps_if (PW.pt (pw_or (pt_not (pt_val (pe_callB call_isi (by rfl) T.isinstanceN (by decide +kernel) (pa_cons (pv 0) (pa_cons (pe_bltn (v := .ty "tuple") (by rfl) T.tupleN (by decide +kernel) rfl) pa_nil))))) (pw_or (pt_cmpR op_eq (pe_callB call_len_seq (by rfl) T.lenN (by decide +kernel) (pa_cons (pv 0) pa_nil)) pe_int (nomark _)) (pw_or1 (pt_not (pt_val (pe_def D_are_pairs_of_names hc (hr.mono (by decide)) (pa_cons (pv 0) pa_nil))))))))
  (pss_one (ps_ret pe_bl))
  pss_nil)
 (pss_one (ps_ret (pe_callB (cr_all rfl) (by rfl) T.allN (by decide +kernel) (pa_cons (pe_lc (own := [("one", 1), ("other", 2)]) (g := gTup _ 2 (gCons (gName 1) (gCons (gName 2) gNil))) (tt := tYes) rfl sc_is_wish.nd (RZ.pi_zipA (by rfl) T.zipN (pa_cons (pv 0) (pa_cons (pe_slice sl_tup (pv 0) (po_some pe_int) po_none) pa_nil))) (blkOk_by (N := ["thing", "one", "other"]) (sc := defScope s_is_wish) (by decide +kernel)) (fun _ _ _ _ _ => (pg_tup (by rfl) (pgs_cons (pg_name (i := 1) sc_is_wish.nd rfl (Or.inl rfl)) (pgs_cons (pg_name (i := 2) sc_is_wish.nd rfl (Or.inl rfl)) pgs_nil)))) (fun _ _ _ _ _ => pts_nil) (fun _ _ _ _ _ => (pe_cmpR (op_ltAK (K := K) rfl hu64) (pv 1) (pv 2) (nomark _)))) pa_nil))))), ?_⟩
    refine ⟨_, rfl, _, _, _, _, _, rfl, .ty "tuple", hv.ty, kit_tup hv, _, rfl, ?_⟩
    cases d with
    | tup ds =>
      refine iteF ?_
      obtain ⟨a, xs, rfl, ha, hx⟩ := id hv
      refine ⟨_, rfl, a, _, rfl, .inr (SqT.of ha), rfl, _, rfl, ?_⟩
      rw [dint]
      refine ite2 (fun e => ?_) (fun e => ?_)
      · refine iteT (no H (.refl H) ?_)
        have e2 : xs.length = 0 := by have := of_decide_eq_true e; omega
        have e3 : ds = [] := List.eq_nil_of_length_eq_zero (by rw [← hx.length]; exact e2)
        subst e3
        rfl
      · refine ⟨_, rfl, .ref a, .tup ds, rfl, ⟨a, xs, rfl, ha, hx⟩, hw, fun H1 s1 => ⟨_, rfl, ?_⟩⟩
        refine ite2 (fun e1 => ?_) (fun e1 => ?_)
        · refine no H1 s1 ?_
          have : ds.all isPair = false := by
            have : (!ds.all isPair) = true := e1
            simpa using this
          show (!ds.isEmpty && ds.all isPair && asc ds) = false
          rw [this]
          simp
        · have al : ds.all isPair = true := by
            have : ¬ (!ds.all isPair) = true := e1
            simpa using this
          match ds, xs, hx, hw, al, e with
          | [], _, hx, _, _, e =>
            cases (show _ = [] from hx)
            exact absurd rfl e
          | d0 :: dr, _, ⟨x0, xr, rfl, h0, hrr⟩, hw, al, _ =>
            have ha1 := s1 _ _ ha
            refine ⟨_, rfl, _, rfl, _, rfl, a, _, rfl, SqT.of ha1, ?_, fun q hq => ?_⟩
            · rintro ⟨z, _⟩
              simp [HT.sIx] at z
            · have ec : cutV (x0 :: xr) (some 1) none = xr := by simp [cutV, HT.sIx]
              have s2 := same_upd (o := .tup (cutV (x0 :: xr) (some 1) none)) hq
              have hx1 : RepAll K H1 (x0 :: xr) (d0 :: dr) := RepAll.mono s1 _ ⟨x0, xr, rfl, h0, hrr⟩
              have lx := hx1.length
              have lz : ((d0 :: dr).zip dr).length = dr.length := by simp
              have lm : dr.length = min (x0 :: xr).length xr.length := by
                have : xr.length = dr.length := by simpa using lx
                simp [this]
              refine ⟨a, q, x0 :: xr, xr, rfl, .inr ⟨SqT.of (s2 _ _ ha1), SqT.of (by rw [upd_same, ec]), fun D hD => ?_⟩⟩
              refine lc_map (walk_zipT lm) ((d0 :: dr).zip dr) (fun p => .bl (dataLt p.1.py p.2.py)) lz ?_ hD
                (fun H' s => ⟨SqT.of (s _ _ (s2 _ _ ha1)), SqT.of (s _ _ (by rw [upd_same, ec]))⟩) ?_ ?_
              · have := (wd_tup hw).1
                simp at this
                exact Nat.lt_of_le_of_lt (by omega : dr.length ≤ 100000) (by decide)
              · rintro i ⟨da, db⟩ y H2 H3 Kt hd hs ⟨Tp, ya, yb, rfl, hT, rfl, e1, e2⟩ kt
                obtain ⟨ga, gb⟩ := List.getElem?_zip_eq_some.mp hd
                have hx2 := RepAll.mono (s2.trans hs) _ hx1
                obtain ⟨va, ea, ra⟩ := RepAll.nth hx2 ga
                have gb' : (d0 :: dr)[i + 1]? = some db := by simpa using gb
                obtain ⟨vb, eb, rb⟩ := RepAll.nth hx2 gb'
                obtain rfl : va = ya := Option.some.inj (ea.symm.trans e1)
                have eb' : xr[i]? = some vb := by simpa using eb
                obtain rfl : vb = yb := Option.some.inj (eb'.symm.trans e2)
                have s3 := same_upd (o := .tup [va, vb]) hT
                have pa : isPair da = true := List.all_eq_true.mp al _ (List.mem_of_getElem? ga)
                have pb : isPair db = true := List.all_eq_true.mp al _ (List.mem_of_getElem? gb')
                obtain ⟨q1, q2, q3, q4, q5⟩ := pair_alike pa pb
                refine ⟨Tp, _, rfl, SqT.of upd_same, rfl, va, [vb], rfl, vb, [], rfl, rfl, rfl, ?_⟩
                exact ⟨_, rfl, _, rfl, da, db, Rep.mono s3 _ ra, Rep.mono s3 _ rb, q1, q2, q3, q4, q5, kt _ s3⟩
              · intro H2 hs hd
                refine ⟨D, ((d0 :: dr).zip dr).map (fun p => dataLt p.1.py p.2.py), rfl, SqL.of (by rw [← map_bl]; exact hd), ?_⟩
                rw [all_map_id, ← asc_zip]
                have z := k H2 (s1.trans (s2.trans hs))
                have q : isWish (.tup (d0 :: dr)) = asc (d0 :: dr) := by
                  show (!(d0 :: dr).isEmpty && (d0 :: dr).all isPair && asc (d0 :: dr)) = _
                  rw [al]
                  rfl
                rw [q] at z
                exact z
    | _ => exact iteT (iteT (no H (.refl H) rfl))
end
end K

set_option Elab.async false
set_option linter.all false
set_option maxRecDepth 100000
set_option maxHeartbeats 8000000
namespace K
open PySem PySem.Spec PyProof.Rows L2 G D L S C Sx Kx Ex
open C8 (pss_cut tCut)
open PySem.W (dataLt alike)
section
variable {P : Program} {w : World} {K : PySem.W.Frag} {mg : Str → Option Value} {base : Heap}
theorem name_str {d : Dat} (h : isName d = true) : ∃ x, d = .str x := by
  cases d with
  | str x => exact ⟨x, rfl⟩
  | _ => cases h
/-- what is_deed must know of the items -/
structure DeedOk (C : Addr) (d : Dat) : Prop where
  wd : Wd d
  fst : ∀ x r, d = .tup (x :: r) → x.noObj = true ∨ ∃ a, x = .obj C a
  lst : ∀ k a b c, d = .tup [k, a, b, c] → c.noObj = true
theorem isDeed2 (k a : Dat) : isDeed (.tup [k, a]) = (k.isThe "throw" && isName a) := rfl
theorem isDeed4 (k a b c : Dat) : isDeed (.tup [k, a, b, c]) = (!k.isThe "throw" && isName a && isName b &&
    (if k.isThe "hand" then decide (strOf a ≠ strOf b) && isName c else k.isThe "call" && isGiven c)) := rfl
abbrev s_is_deed : Stmt := top 10
theorem sc_is_deed : FnScope ["thing"] ["thing"] (defScope s_is_deed) := ⟨rfl, rfl, rfl, by decide +kernel, rfl, by decide +kernel, by decide +kernel⟩
theorem ok_is_deed {f C : Addr} {fd : FuncData} (F : Fun K "is_deed" "is_deed" s_is_deed f fd) (T : Bl mg)
    (D_is_name : Def P w K mg base 2 "is_name" ["thing"] (spB K Wd isName))
    (D_is_given : Def P w K mg base 3 "is_given" ["thing"] (spB K (fun d => Wd d ∧ d.noObj = true) isGiven))
    (M_Gate : EqM P w K mg base 2 C ["self", "other"] (spNe C)) :
    Fn P w K mg base CX0 4 f fd ["thing"] (spB K (DeedOk C) isDeed) := by
  refine fn_calm F sc_is_deed (fun vs H Q E h => ?_) (fun cdv A outer s H vs Q E hc hr h => ?_)
  · obtain ⟨v, d, rfl, _⟩ := h
    rfl
  · obtain ⟨v, d, rfl, hv, hw, k⟩ := h
    have hu := hu_of hr
    refine ⟨_, (pss_cons (ps_if (PW.pt (pw_or (pt_not (pt_val (pe_callB call_isi (by rfl) T.isinstanceN (by decide +kernel) (pa_cons (pv 0) (pa_cons (pe_bltn (v := .ty "tuple") (by rfl) T.tupleN (by decide +kernel) rfl) pa_nil))))) (pw_or1 (pt_cmpR op_eq (pe_callB call_len_seq (by rfl) T.lenN (by decide +kernel) (pa_cons (pv 0) pa_nil)) pe_int (nomark _)))))
  (pss_one (ps_ret pe_bl))
  pss_nil)
 (pss_cons (ps_if (pt_cmpR (op_eqS M_Gate hc (hr.mono (by decide)) rfl hu) (pe_ix ix_tup (pv 0) pe_int (fun _ _ => rfl)) pe_str (nomark _))
  (pss_one (ps_ret (pe_and (pe_cmpR op_eq (pe_callB call_len_seq (by rfl) T.lenN (by decide +kernel) (pa_cons (pv 0) pa_nil)) pe_int (nomark _)) (pe_one (pe_def D_is_name hc (hr.mono (by decide)) (pa_cons (pe_ix ix_tup (pv 0) pe_int (fun _ _ => rfl)) pa_nil))))))
  pss_nil)
 (pss_cons (ps_if (PW.pt (pw_or (pt_cmpR op_ne (pe_callB call_len_seq (by rfl) T.lenN (by decide +kernel) (pa_cons (pv 0) pa_nil)) pe_int (nomark _)) (pw_or (pt_not (pt_val (pe_def D_is_name hc (hr.mono (by decide)) (pa_cons (pe_ix ix_tup (pv 0) pe_int (fun _ _ => rfl)) pa_nil)))) (pw_or1 (pt_not (pt_val (pe_def D_is_name hc (hr.mono (by decide)) (pa_cons (pe_ix ix_tup (pv 0) pe_int (fun _ _ => rfl)) pa_nil))))))))
  (pss_one (ps_ret pe_bl))
  pss_nil)
 (pss_cons (ps_if (pt_cmpR (op_eqS M_Gate hc (hr.mono (by decide)) rfl hu) (pe_ix ix_tup (pv 0) pe_int (fun _ _ => rfl)) pe_str (nomark _))
  (pss_one (ps_ret (pe_and (pe_cmpR op_ne (pe_ix ix_tup (pv 0) pe_int (fun _ _ => rfl)) (pe_ix ix_tup (pv 0) pe_int (fun _ _ => rfl)) (nomark _)) (pe_one (pe_def D_is_name hc (hr.mono (by decide)) (pa_cons (pe_ix ix_tup (pv 0) pe_int (fun _ _ => rfl)) pa_nil))))))
  pss_nil)
 (pss_one (ps_ret (pe_and (pe_cmpR (op_eqS M_Gate hc (hr.mono (by decide)) rfl hu) (pe_ix ix_tup (pv 0) pe_int (fun _ _ => rfl)) pe_str (nomark _)) (pe_one (pe_def D_is_given hc (hr.mono (by decide)) (pa_cons (pe_ix ix_tup (pv 0) pe_int (fun _ _ => rfl)) pa_nil)))))))))), ?_⟩
    refine ⟨_, rfl, _, _, _, _, _, rfl, .ty "tuple", hv.ty, kit_tup hv, _, rfl, ?_⟩
    cases d with
    | tup ds =>
      refine iteF ?_
      obtain ⟨a, xs, rfl, ha, hx⟩ := id hv
      refine ⟨_, rfl, a, _, rfl, .inr (SqT.of ha), rfl, _, rfl, ?_⟩
      rw [dint]
      match ds, xs, hx, hw with
      | [], _, hx, hw =>
        cases (show _ = [] from hx)
        exact iteT (k H (.refl H))
      | dk :: dr, _, ⟨xk, xr, rfl, hk, hrr⟩, hw =>
        have lx : xr.length = dr.length := hrr.length
        refine iteF ?_
        -- thing[0] == "throw", and what goes on behind it
        have first : ∀ (t : Str) (H1 : Hp), Same H H1 → ∀ (Q' : V → Hp → Prop), (∀ H', Same H1 H' → Q' (.bl (dk.isThe t)) H') →
            rEqS K C (spNe C) xk (.str t) H1 Q' := by
          intro t H1 s1 Q' k'
          rcases hw.fst dk dr rfl with q | ⟨a', rfl⟩
          · exact .inl ⟨dk, t, Rep.mono s1 _ hk, q, rfl, k' H1 (.refl H1)⟩
          · obtain ⟨rfl, o, dx, fs, e⟩ := Rep.mono s1 _ hk
            exact .inr ⟨a', dx, fs, .str t, rfl, e, rfl, .inl rfl, a', t, dx, fs, rfl, e, fun H' s => ⟨_, rfl, k' H' s⟩⟩
        refine ⟨_, rfl, a, _, _, _, rfl, rfl, SqT.of ha, atI_nat (j := 0) rfl, first _ H (.refl H) _ fun H1 s1 => ⟨_, rfl, ?_⟩⟩
        have ha1 := s1 _ _ ha
        have hrr1 := RepAll.mono s1 _ hrr
        refine ite2 (fun e1 => ?_) (fun e1 => ?_)
        · refine ⟨_, rfl, a, _, rfl, .inr (SqT.of ha1), rfl, _, rfl, ?_⟩
          rw [dint]
          have z := k H1 s1
          match dr, xr, hrr1, lx, hw, z with
          | [da], _, ⟨xa, _, rfl, h1, rfl⟩, _, hw, z =>
            refine iteT ?_
            refine ⟨_, rfl, a, _, _, _, rfl, rfl, SqT.of ha1, rfl, xa, da, rfl, h1, (wd_tup hw.wd).2 _ (by simp), fun H2 s2 => ?_⟩
            have z := k H2 (s1.trans s2)
            rw [isDeed2, e1, Bool.true_and] at z
            exact z
          | [], _, hrr1, lx, hw, z =>
            cases (show _ = [] from hrr1)
            exact iteF z
          | d1 :: d2 :: [], _, ⟨x1, _, rfl, _, x2, _, rfl, _, rfl⟩, _, hw, z => exact iteF z
          | d1 :: d2 :: d3 :: [], _, ⟨x1, _, rfl, _, x2, _, rfl, _, x3, _, rfl, _, rfl⟩, _, hw, z =>
            refine iteF ?_
            rw [isDeed4, e1] at z
            exact z
          | d1 :: d2 :: d3 :: d4 :: r, _, ⟨x1, _, rfl, _, x2, _, rfl, _, x3, _, rfl, _, x4, xr, rfl, _, _⟩, lx, hw, z =>
            refine ite2 (fun e => ?_) (fun e => z)
            have := of_decide_eq_true e
            simp at this
            omega
        · have e1' : dk.isThe "throw" = false := by simpa using e1
          refine ⟨_, rfl, a, _, rfl, .inr (SqT.of ha1), rfl, _, rfl, ?_⟩
          rw [dint]
          have z := k H1 s1
          match dr, xr, hrr1, lx, hw, z with
          | [da, db, dc], _, ⟨xa, _, rfl, h1, xb, _, rfl, h2, xc, _, rfl, h3, rfl⟩, _, hw, z =>
            have wa := (wd_tup hw.wd).2 da (by simp)
            have wb := (wd_tup hw.wd).2 db (by simp)
            have wc := (wd_tup hw.wd).2 dc (by simp)
            have nc := hw.lst dk da db dc rfl
            clear z
            have z : ∀ H', Same H1 H' → Q (.bl (isName da && isName db && (if dk.isThe "hand" then decide (strOf da ≠ strOf db) && isName dc else dk.isThe "call" && isGiven dc))) H' := by
              intro H' s'
              have z := k H' (s1.trans s')
              rw [isDeed4, e1'] at z
              simpa [Bool.and_assoc] using z
            refine iteF ?_
            refine ⟨_, rfl, a, _, _, _, rfl, rfl, SqT.of ha1, rfl, xa, da, rfl, h1, wa, fun H2 s2 => ⟨_, rfl, ?_⟩⟩
            have ha2 := s2 _ _ ha1
            refine ite2 (fun e2 => ?_) (fun e2 => ?_)
            · have e2' : isName da = false := by simpa using e2
              refine iteT ?_
              have z := z H2 s2
              rw [e2'] at z
              exact z
            · have e2' : isName da = true := by simpa using e2
              refine ⟨_, rfl, a, _, _, _, rfl, rfl, SqT.of ha2, rfl, xb, db, rfl, Rep.mono s2 _ h2, wb, fun H3 s3 => ⟨_, rfl, ?_⟩⟩
              have s13 := s2.trans s3
              have ha3 := s3 _ _ ha2
              refine ite2 (fun e3 => ?_) (fun e3 => ?_)
              · have e3' : isName db = false := by simpa using e3
                have z := z H3 s13
                rw [e2', e3'] at z
                exact z
              · have e3' : isName db = true := by simpa using e3
                refine ⟨_, rfl, a, _, _, _, rfl, rfl, SqT.of ha3, rfl, first _ H3 (s1.trans s13) _ fun H4 s4 => ⟨_, rfl, ?_⟩⟩
                have ha4 := s4 _ _ ha3
                have s14 := s13.trans s4
                obtain ⟨ya, rfl⟩ := name_str e2'
                obtain ⟨yb, rfl⟩ := name_str e3'
                cases (show xa = V.str ya from h1)
                cases (show xb = V.str yb from h2)
                refine ite2 (fun e4 => ?_) (fun e4 => ?_)
                · refine ⟨_, rfl, a, _, _, _, rfl, rfl, SqT.of ha4, rfl, _, rfl, a, _, _, _, rfl, rfl, SqT.of ha4, rfl, rfl, _, rfl, ?_⟩
                  have z0 := z
                  by_cases q : ya = yb
                  · subst q
                    have z := z H4 s14
                    rw [e2', e4] at z
                    simpa [strOf] using z
                  · have eq : (!decide (V.str ya = V.str yb)) = true := by simp [q]
                    rw [eq]
                    refine iteT ?_
                    refine ⟨_, rfl, a, _, _, _, rfl, rfl, SqT.of ha4, rfl, xc, dc, rfl, Rep.mono s14 _ h3, wc, fun H5 s5 => ?_⟩
                    have z := z0 H5 (s14.trans s5)
                    rw [e2', e3', e4] at z
                    simpa [strOf, q] using z
                · have e4' : dk.isThe "hand" = false := by simpa using e4
                  refine ⟨_, rfl, a, _, _, _, rfl, rfl, SqT.of ha4, rfl, first _ H4 (s1.trans s14) _ fun H5 s5 => ⟨_, rfl, ?_⟩⟩
                  have ha5 := s5 _ _ ha4
                  have s15 := s14.trans s5
                  refine ite2 (fun e5 => ?_) (fun e5 => ?_)
                  · refine ⟨_, rfl, a, _, _, _, rfl, rfl, SqT.of ha5, rfl, xc, dc, rfl, Rep.mono s15 _ h3, ⟨wc, nc⟩, fun H6 s6 => ?_⟩
                    have z := z H6 (s15.trans s6)
                    rw [e2', e3', e4', e5] at z
                    simpa using z
                  · have e5' : dk.isThe "call" = false := by simpa using e5
                    have z := z H5 s15
                    rw [e2', e3', e4', e5'] at z
                    simpa using z
          | [], _, hrr1, lx, hw, z =>
            cases (show _ = [] from hrr1)
            exact iteT (iteT z)
          | [d1], _, ⟨x1, _, rfl, _, rfl⟩, _, hw, z =>
            refine iteT (iteT ?_)
            rw [isDeed2, e1'] at z
            exact z
          | d1 :: d2 :: [], _, ⟨x1, _, rfl, _, x2, _, rfl, _, rfl⟩, _, hw, z => exact iteT (iteT z)
          | d1 :: d2 :: d3 :: d4 :: r, _, ⟨x1, _, rfl, _, x2, _, rfl, _, x3, _, rfl, _, x4, xr, rfl, _, _⟩, lx, hw, z =>
            have q : (!decide (((V.ref 0 : V) :: x1 :: x2 :: x3 :: x4 :: xr).length = (4 : Int))) = true := by
              have : ¬ (((xk :: x1 :: x2 :: x3 :: x4 :: xr).length : Nat) : Int) = 4 := by simp; omega
              simpa using this
            refine ite2 (fun _ => ?_) (fun e => ?_)
            · exact iteT z
            · exact absurd q e
    | _ => exact iteT (iteT (k H (.refl H)))
end
end K

set_option Elab.async false
set_option linter.all false
set_option maxRecDepth 100000
set_option maxHeartbeats 8000000
namespace K
open PySem PySem.Spec PyProof.Rows L2 G D L S C Sx Kx Ex
open C8 (pss_cut tCut)
open PySem.W (dataLt alike)
theorem abc (c : Nat) : decide (c ∈ ("abcdefghijklmnopqrstuvwxyz" : Str).cps.toList) = lower c := by
  have e : ("abcdefghijklmnopqrstuvwxyz" : Str).cps.toList = List.range' 97 26 := by decide +kernel
  rw [e]
  unfold lower
  by_cases h1 : 97 ≤ c <;> by_cases h2 : c ≤ 122 <;> simp [List.mem_range'_1, h1, h2] <;> omega
theorem sel_empty {α β : Type} (f : α → Bool) (g : α → β) (xs : List α) : (xs.filterMap fun a => if f a = true then none else some (g a)).isEmpty = xs.all f := by
  induction xs with
  | nil => rfl
  | cons x xs ih =>
    rw [List.all_cons, ← ih, List.filterMap_cons]
    cases f x <;> simp
section
variable {P : Program} {w : World} {K : PySem.W.Frag} {mg : Str → Option Value} {base : Heap}
abbrev s_law_is_whole : Stmt := top 21
theorem sc_law_is_whole : FnScope ["thing"] ["thing"] (defScope s_law_is_whole) := ⟨rfl, rfl, rfl, by decide +kernel, rfl, by decide +kernel, by decide +kernel⟩
theorem ok_law_is_whole {f : Addr} {fd : FuncData} (F : Fun K "_law_is_whole" "_law_is_whole" s_law_is_whole f fd) (T : Bl mg) :
    Fn P w K mg base CX0 2 f fd ["thing"] (spB K (fun _ => True) isWhole) := by
  refine fn_calm F sc_law_is_whole (fun vs H Q E h => ?_) (fun cdv A outer s H vs Q E hc hr h => ?_)
  · obtain ⟨v, d, rfl, _⟩ := h
    rfl
  · obtain ⟨v, d, rfl, hv, _, k⟩ := h
    refine ⟨_, (pss_one (ps_ret (pe_and (pe_callB call_isi (by rfl) T.isinstanceN (by decide +kernel) (pa_cons (pv 0) (pa_cons (pe_bltn (v := .ty "int") (by rfl) T.intN (by decide +kernel) rfl) pa_nil))) (pe_one (pe_not (pe_callB call_isi (by rfl) T.isinstanceN (by decide +kernel) (pa_cons (pv 0) (pa_cons (pe_bltn (v := .ty "bool") (by rfl) T.boolN (by decide +kernel) rfl) pa_nil)))))))), ?_⟩
    refine ⟨_, rfl, _, _, _, _, _, rfl, .ty "int", hv.ty, kit_int hv, _, rfl, ?_⟩
    refine ite2 (fun e => ?_) (fun e => ?_)
    · refine ⟨_, rfl, _, _, _, _, _, rfl, .ty "bool", hv.ty, kit_bl hv, _, rfl, ?_⟩
      have q : (!d.isBl) = isWhole d := by cases d <;> first | rfl | cases e
      rw [q]
      exact k H (.refl H)
    · have q : isWhole d = false := by cases d <;> first | rfl | exact absurd rfl e
      have z := k H (.refl H)
      rw [q] at z
      exact z
abbrev s_law_is_name : Stmt := top 22
theorem sc_law_is_name : FnScope ["thing", "sign"] ["thing"] (defScope s_law_is_name) := ⟨rfl, rfl, rfl, by decide +kernel, rfl, by decide +kernel, by decide +kernel⟩
theorem ok_law_is_name {f : Addr} {fd : FuncData} (F : Fun K "_law_is_name" "_law_is_name" s_law_is_name f fd) (T : Bl mg) :
    Fn P w K mg base CX0 2 f fd ["thing"] (spB K Wd isName) := by
  refine fn_calm F sc_law_is_name (fun vs H Q E h => ?_) (fun cdv A outer s H vs Q E hc hr h => ?_)
  · obtain ⟨v, d, rfl, _⟩ := h
    rfl
  · obtain ⟨v, d, rfl, hv, hw, k⟩ := h
    have hu := hu_of hr
    refine ⟨_, (pss_cons (ps_if (PW.pt (pw_or (pt_not (pt_val (pe_callB call_isi (by rfl) T.isinstanceN (by decide +kernel) (pa_cons (pv 0) (pa_cons (pe_bltn (v := .ty "str") (by rfl) T.strN (by decide +kernel) rfl) pa_nil))))) (pw_or1 (pt_not (pt_chain op_le op_le pe_int (pe_callB call_len_str (by rfl) T.lenN (by decide +kernel) (pa_cons (pv 0) pa_nil)) pe_int)))))
  (pss_one (ps_ret pe_bl))
  pss_nil)
 (pss_one (ps_ret (pe_cmpR (op_eq_lst0 hu) (pe_lc (own := [("sign", 1)]) (g := gName 1)  rfl sc_law_is_name.nd (pi_str (pv 0)) (blkOk_by (N := ["thing", "sign"]) (sc := defScope s_law_is_name) (by decide +kernel)) (fun _ _ _ _ _ => (pg_name (i := 1) sc_law_is_name.nd rfl (Or.inl rfl))) (fun _ _ _ _ _ => (pts_one (pt_cmpR op_notIn_sign (pv 1) pe_str (by rfl)))) (fun _ _ _ _ _ => (pv 1))) (pe_lst pa_nil) (nomark _))))), ?_⟩
    refine ⟨_, rfl, _, _, _, _, _, rfl, .ty "str", hv.ty, kit_str hv, _, rfl, ?_⟩
    cases d with
    | str x =>
      cases (show v = V.str x from hv)
      refine iteF ?_
      have hx : x.length ≤ sizeLine := Nat.le_trans (wd_str hw) (by decide)
      have no : ∀ H', Same H H' → isName (.str x) = false → Q (.bl false) H' := fun H' s e => by
        have z := k H' s
        rw [e] at z
        exact z
      refine ⟨_, rfl, _, rfl, hx, _, _, rfl, rfl, _, rfl, ?_⟩
      refine ite2 (fun e1 => ?_) (fun e1 => ?_)
      · refine ⟨_, _, rfl, rfl, _, rfl, ?_⟩
        have h1 : 1 ≤ x.length := by have := of_decide_eq_true e1; omega
        refine ite2 (fun e2 => ?_) (fun e2 => ?_)
        · refine no H (.refl H) ?_
          have h2 : ¬ x.length ≤ 8 := fun z => by
            have : decide (((x.length : Nat) : Int) ≤ 8) = true := decide_eq_true (by omega)
            rw [this] at e2
            cases e2
          show nameOk x = false
          unfold nameOk
          rw [decide_eq_false h2]
          simp
        · have h2 : x.length ≤ 8 := Decidable.byContradiction fun z => e2 (by
            have : decide (((x.length : Nat) : Int) ≤ 8) = false := decide_eq_false (by omega)
            rw [this]; rfl)
          refine ⟨_, rfl, x, rfl, fun D hD => lc_sel walk_str x.cps.toList (fun c => if lower c = true then none else some (.str ⟨#[c]⟩)) (by simp) ?_ hD (fun _ _ => trivial) ?_ ?_⟩
          · have : x.cps.size = x.length := rfl
            rw [this]
            exact Nat.lt_of_le_of_lt h2 (by decide)
          · rintro i c y H1 H2 Kt Kf hc hs ⟨rfl, c', hc', rfl⟩ kt kf
            obtain rfl : c' = c := by
              rw [← Array.getElem?_toList, hc] at hc'
              exact (Option.some.inj hc').symm
            refine ⟨rfl, _, rfl, c', _, rfl, rfl, _, rfl, ?_⟩
            rw [abc]
            refine ite2 (fun e3 => ?_) (fun e3 => ?_)
            · have e4 : lower c' = false := by simpa using e3
              exact ⟨_, rfl, kt _ _ (.refl _) (by rw [e4]; rfl)⟩
            · have e4 : lower c' = true := by simpa using e3
              exact kf _ (.refl _) (by rw [e4]; rfl)
          · intro H1 hs hd
            refine ⟨Nat.zero_le _, fun p hp => ?_⟩
            have s2 := same_upd (o := .lst []) hp
            refine ⟨D, p, _, rfl, s2 _ _ hd, rfl, upd_same, ?_⟩
            rw [sel_empty]
            have z := k _ (hs.trans s2)
            have q : isName (.str x) = x.cps.toList.all lower := by
              show nameOk x = _
              unfold nameOk
              rw [decide_eq_true h1, decide_eq_true h2]
              rfl
            rw [q] at z
            exact z
      · refine ⟨_, rfl, iteT (no H (.refl H) ?_)⟩
        have h1 : ¬ 1 ≤ x.length := fun z => e1 (decide_eq_true (by omega))
        show nameOk x = false
        unfold nameOk
        rw [decide_eq_false h1]
        rfl
    | _ => exact iteT (iteT (k H (.refl H)))
end
/-! a dict of pairs (name, True) has as many keys as there are different names -/
def onePair (x : Str) : Key × V := (.inr x, .bl true)
abbrev keysK (kvs : List (Key × V)) : List Key := kvs.map (·.1)
theorem put_old (kvs : List (Key × V)) (x : Str) (h : (Sum.inr x : Key) ∈ keysK kvs) : keysK (putK kvs (Sum.inr x) (.bl true)) = keysK kvs := by
  have h2 : (kvs.any fun kv => decide (kv.1 = (Sum.inr x : Key))) = true := by
    obtain ⟨kv, h1, h2⟩ := List.mem_map.mp h
    exact List.any_eq_true.mpr ⟨kv, h1, decide_eq_true h2⟩
  unfold putK keysK
  rw [if_pos h2, List.map_map]
  apply List.map_congr_left
  intro kv _
  show (if kv.1 = (Sum.inr x : Key) then (kv.1, V.bl true) else kv).1 = kv.1
  by_cases e : kv.1 = (Sum.inr x : Key)
  · rw [if_pos e]
  · rw [if_neg e]
theorem put_new (kvs : List (Key × V)) (x : Str) (h : ¬ (Sum.inr x : Key) ∈ keysK kvs) : keysK (putK kvs (Sum.inr x) (.bl true)) = keysK kvs ++ [Sum.inr x] := by
  have h2 : ¬ (kvs.any fun kv => decide (kv.1 = (Sum.inr x : Key))) = true := fun z => by
    obtain ⟨kv, h1, h2⟩ := List.any_eq_true.mp z
    exact h (List.mem_map.mpr ⟨kv, h1, of_decide_eq_true h2⟩)
  unfold putK keysK
  rw [if_neg h2, List.map_append]
  rfl
theorem merge_snoc (l : List (Key × V)) (p : Key × V) : mergeK [] (l ++ [p]) = putK (mergeK [] l) p.1 p.2 := by
  unfold mergeK
  rw [List.foldl_append]
  rfl
theorem merge_cnt (xs : List Str) : ∀ i, i ≤ xs.length → (keysK (mergeK [] ((xs.take i).map onePair))).length = cnt xs i ∧
    ∀ x, (Sum.inr x : Key) ∈ keysK (mergeK [] ((xs.take i).map onePair)) ↔ x ∈ xs.take i
  | 0, _ => ⟨rfl, fun x => by simp [mergeK, keysK]⟩
  | i + 1, h => by
    have hk : xs[i]? = some xs[i] := List.getElem?_eq_getElem (by omega)
    have e : xs.take (i + 1) = xs.take i ++ [xs[i]] := by rw [List.take_add_one, hk]; rfl
    obtain ⟨h1, h2⟩ := merge_cnt xs i (by omega)
    rw [e, List.map_append, List.map_cons, List.map_nil, merge_snoc]
    show (keysK (putK _ (Sum.inr xs[i]) (.bl true))).length = _ ∧ ∀ x, _ ∈ keysK (putK _ (Sum.inr xs[i]) (.bl true)) ↔ _
    unfold Sx.cnt
    rw [hk]
    simp only
    by_cases q : xs[i] ∈ xs.take i
    · rw [put_old _ _ ((h2 _).mpr q), if_pos q]
      refine ⟨h1, fun x => ?_⟩
      rw [h2, List.mem_append, List.mem_singleton]
      exact ⟨.inl, fun z => z.elim id fun e => by rw [e]; exact q⟩
    · rw [put_new _ _ (fun z => q ((h2 _).mp z)), if_neg q]
      refine ⟨by rw [List.length_append, h1]; rfl, fun x => ?_⟩
      rw [List.mem_append, h2, List.mem_append, List.mem_singleton, List.mem_singleton]
      exact or_congr Iff.rfl ⟨fun z => Sum.inr.inj z, fun z => by rw [z]⟩
theorem merge_len (xs : List Str) : (mergeK [] (xs.map onePair)).length = cnt xs xs.length := by
  have h := (merge_cnt xs xs.length (Nat.le_refl _)).1
  rw [List.take_length] at h
  rw [← h]
  exact (List.length_map _).symm
section
variable {P : Program} {w : World} {K : PySem.W.Frag} {mg : Str → Option Value} {base : Heap}
/-- the end of a comprehension that makes pairs (x, True) of texts -/
theorem lc_pairs {J : It} {n : Nat} {Gd : Hp → Prop} {Y : Nat → Hp → V → Hp → Prop} (wk : Walk J n Gd Y) (xs : List Str) {g : TG} {te : TE} {vs : List Nat} {σ : L2.St} {H1 : Hp} {D : Addr}
    {Qd : Hp → Prop} (hn : xs.length = n) (hz : n < sizeLine) (hD : H1 D = none) (hG : ∀ H, Same H1 H → Gd H)
    (turn : ∀ (i : Nat) (x : Str) (y : V) (H H' : Hp) (Kt : V → Hp → Prop), xs[i]? = some x → Same H1 H → Y i H y H' →
      (∀ p, H p = none → Kt (.ref p) (upd H p (.tup [.str x, .bl true]))) →
      g y (wipe σ vs) H' fun σ2 H2 => wipe σ2 vs = wipe σ vs ∧ te σ2 H2 Kt)
    (done : ∀ H (ps : List Addr), Same H1 H → H D = some (.lst (ps.map V.ref)) → Paired (fun p (kv : Key × V) => H p = some (.tup [kV kv.1, kv.2])) ps (xs.map onePair) → Qd H) :
    ∃ W : Nat → Nat → Hp → Prop, (∃ m, W 0 m (upd H1 D (.lst []))) ∧ ∀ i m H, W i m H →
      (J.stop i H ∧ Qd H) ∨ (J.go i H ∧ ∃ Nx : Hp → Prop, (∀ H', Nx H' → ∃ m', m' < m ∧ W (i + 1) m' H') ∧ ∀ x H', J.yld i H x H' →
        g x (wipe σ vs) H' fun σ2 H2 => wipe σ2 vs = wipe σ vs ∧ tYes σ2 H2 fun b H3 =>
          if b = true then te σ2 H3 fun y H4 => ∃ acc, H4 D = some (.lst acc) ∧ acc.length < sizeLine ∧ Nx (upd H4 D (.lst (acc ++ [y]))) else Nx H3) := by
  refine lc_it wk (fun i H => Same H1 H ∧ ∃ ps : List Addr, H D = some (.lst (ps.map V.ref)) ∧ Paired (fun p (kv : Key × V) => p ≠ D ∧ H p = some (.tup [kV kv.1, kv.2])) ps ((xs.take i).map onePair))
    ⟨same_upd hD, [], upd_same, by simp; exact .nil⟩ (fun i H _ h => hG H h.1) ?_ ?_
  · rintro i y H H' hi ⟨hs, ps, hd, hp⟩ hy
    have hx : xs[i]? = some xs[i] := List.getElem?_eq_getElem (by omega)
    have len : ps.length = i := by
      have := Paired.length hp
      rw [List.length_map, List.length_take] at this
      omega
    refine turn i _ y H H' _ hx hs hy fun p np => ?_
    have pD : p ≠ D := fun z => by rw [z, hd] at np; cases np
    refine ⟨ps.map V.ref, by rw [upd_ne (Ne.symm pD)]; exact hd, by rw [List.length_map, len]; omega, ?_, ps ++ [p], by rw [upd_same, List.map_append]; rfl, ?_⟩
    · intro b o e
      rw [upd_ne (ne_of_none e hD), upd_ne (ne_of_none (hs _ _ e) np)]
      exact hs _ _ e
    · have e : xs.take (i + 1) = xs.take i ++ [xs[i]] := by rw [List.take_add_one, hx]; rfl
      rw [e, List.map_append]
      have old : ∀ {as : List Addr} {bs : List (Key × V)}, Paired (fun p (kv : Key × V) => p ≠ D ∧ H p = some (.tup [kV kv.1, kv.2])) as bs →
          Paired (fun q (kv : Key × V) => q ≠ D ∧ (upd (upd H p (.tup [.str xs[i], .bl true])) D (.lst (ps.map V.ref ++ [.ref p]))) q = some (.tup [kV kv.1, kv.2])) (as ++ [p]) (bs ++ [onePair xs[i]]) := by
        intro as bs h
        induction h with
        | nil => exact .cons ⟨pD, by rw [upd_ne pD, upd_same]; rfl⟩ .nil
        | cons a _ ih => exact .cons ⟨a.1, by rw [upd_ne a.1, upd_ne (ne_of_none a.2 np)]; exact a.2⟩ ih
      exact old hp
  · rintro H ⟨hs, ps, hd, hp⟩
    rw [← hn, List.take_length] at hp
    have : ∀ {as : List Addr} {bs : List (Key × V)}, Paired (fun p (kv : Key × V) => p ≠ D ∧ H p = some (.tup [kV kv.1, kv.2])) as bs → Paired (fun p (kv : Key × V) => H p = some (.tup [kV kv.1, kv.2])) as bs := by
      intro as bs h
      induction h with
      | nil => exact .nil
      | cons a _ ih => exact .cons a.2 ih
    exact done H ps hs hd (this hp)
end
end K

set_option Elab.async false
set_option linter.all false
set_option maxRecDepth 100000
set_option maxHeartbeats 8000000
namespace K
open PySem PySem.Spec PyProof.Rows L2 G D L S C Sx Kx Ex
open C8 (pss_cut tCut)
open PySem.W (dataLt alike)
section
variable {P : Program} {w : World} {K : PySem.W.Frag} {mg : Str → Option Value} {base : Heap}
theorem sel_ne {α β : Type} (f : α → Bool) (g : α → β) (xs : List α) : (!(xs.filterMap fun a => if f a = true then none else some (g a)).isEmpty) = !xs.all f := by rw [sel_empty]
/-- the names of a sequence, and its dict -/
theorem dict_end {ds : List Dat} {vs : List V} {H : Hp} (hr : RepAll K H vs ds) (hn : ds.all isName = true) :
    vs = (ds.map strOf).map V.str ∧ (decide (V.int (((mergeK [] ((ds.map strOf).map onePair)).length : Nat) : Int) = V.int (vs.length : Nat))) = namesIn ds := by
  rw [merge_len]
  exact names_end hr hn
abbrev s_law_are_names : Stmt := top 23
theorem sc_law_are_names : FnScope ["thing", "one"] ["thing"] (defScope s_law_are_names) := ⟨rfl, rfl, rfl, by decide +kernel, rfl, by decide +kernel, by decide +kernel⟩
theorem ok_law_are_names {f : Addr} {fd : FuncData} (F : Fun K "_law_are_names" "_law_are_names" s_law_are_names f fd) (T : Bl mg)
    (D_law_is_name : Def P w K mg base 2 "_law_is_name" ["thing"] (spB K Wd isName)) :
    Fn P w K mg base CX0 3 f fd ["thing"] (spB K Wd areNames) := by
  refine fn_calm F sc_law_are_names (fun vs H Q E h => ?_) (fun cdv A outer s H vs Q E hc hr h => ?_)
  · obtain ⟨v, d, rfl, _⟩ := h
    rfl
  · obtain ⟨v, d, rfl, hv, hw, k⟩ := h
    have hu := hu_of hr
    have no : ∀ H', Same H H' → areNames d = false → Q (.bl false) H' := fun H' s e => by
      have z := k H' s
      rw [e] at z
      exact z
    cases d with
    | lst ds =>
      refine ⟨_, (pss_cons (ps_if (PW.pt (pw_or (pt_not (pt_val (pe_callB call_isiT (by rfl) T.isinstanceN (by decide +kernel) (pa_cons (pv 0) (pa_cons (pe_tup (pa_cons (pe_bltn (v := .ty "list") (by rfl) T.listN (by decide +kernel) rfl) (pa_cons (pe_bltn (v := .ty "tuple") (by rfl) T.tupleN (by decide +kernel) rfl) pa_nil))) pa_nil))))) (pw_or1 (pt_cmpR (op_ne_lst0 hu) (pe_lc (own := [("one", 1)]) (g := gName 1)  rfl sc_law_are_names.nd (pi_list (pv 0)) (blkOk_by (N := ["thing", "one"]) (sc := defScope s_law_are_names) (by decide +kernel)) (fun _ _ _ _ _ => (pg_name (i := 1) sc_law_are_names.nd rfl (Or.inl rfl))) (fun _ _ _ _ _ => (pts_one (pt_not (pt_val (pe_def D_law_is_name hc (hr.mono (by decide)) (pa_cons (pv 1) pa_nil)))))) (fun _ _ _ _ _ => (pv 1))) (pe_lst pa_nil) (nomark _)))))
  (pss_one (ps_ret pe_bl))
  pss_nil)
 (pss_one (ps_ret (pe_cmpR op_eq (pe_callB call_lenD (by rfl) T.lenN (by decide +kernel) (pa_cons (pe_callTy (call_dictP rfl) (by rfl) T.dictN (by decide +kernel) (pa_cons (pe_lc (own := [("one", 1)]) (g := gName 1) (tt := tYes) rfl sc_law_are_names.nd (pi_list (pv 0)) (blkOk_by (N := ["thing", "one"]) (sc := defScope s_law_are_names) (by decide +kernel)) (fun _ _ _ _ _ => (pg_name (i := 1) sc_law_are_names.nd rfl (Or.inl rfl))) (fun _ _ _ _ _ => pts_nil) (fun _ _ _ _ _ => (pe_tup (pa_cons (pv 1) (pa_cons pe_bl pa_nil))))) pa_nil)) pa_nil)) (pe_callB call_len_seq (by rfl) T.lenN (by decide +kernel) (pa_cons (pv 0) pa_nil)) (nomark _))))), ?_⟩
      refine ⟨_, rfl, by show 2 ≤ sizeLine; decide, fun p hp => ?_⟩
      have s1 := same_upd (o := .tup [.ty "list", .ty "tuple"]) hp
      have hv1 := Rep.mono s1 _ hv
      refine ⟨_, p, _, _, _, _, rfl, upd_same, .cons (.ty _) (.cons (.ty _) .nil), hv1.ty, kit_seq hv1, _, rfl, ?_⟩
      refine iteF ?_
      obtain ⟨a, xs, rfl, ha, hx⟩ := hv1
      have big : xs.length < sizeLine := by
        rw [hx.length]
        exact Nat.lt_of_le_of_lt (wd_lst hw).1 (by decide)
      refine ⟨_, rfl, a, rfl, ⟨xs, SqL.of ha⟩, fun D hD => lc_sel (walk_list (xs := xs)) (xs.zip ds) (fun q => if isName q.2 = true then none else some q.1)
        (by rw [List.length_zip, hx.length]; omega) big hD (fun H' s => SqL.of (s _ _ ha)) ?_ ?_⟩
      · rintro i ⟨v', d'⟩ y H1 H2 Kt Kf hd hs ⟨rfl, hy⟩ kt kf
        obtain ⟨gv, gd⟩ := List.getElem?_zip_eq_some.mp hd
        obtain rfl : v' = y := Option.some.inj (gv.symm.trans hy)
        obtain ⟨d2, hd', hr'⟩ := hx.get hy
        obtain rfl : d2 = d' := Option.some.inj (hd'.symm.trans gd)
        refine ⟨rfl, _, rfl, v', d2, rfl, Rep.mono hs _ hr', (wd_lst hw).2 _ (List.mem_of_getElem? gd), fun H' s => ⟨_, rfl, ?_⟩⟩
        refine ite2 (fun e => ?_) (fun e => ?_)
        · have e' : isName d2 = false := by simpa using e
          exact ⟨_, rfl, kt _ _ s (by simp [e'])⟩
        · have e' : isName d2 = true := by simpa using e
          exact kf _ s (by simp [e'])
      · intro H1 hs hd
        refine ⟨Nat.zero_le _, fun p2 hp2 => ?_⟩
        have s2 := same_upd (o := .lst []) hp2
        refine ⟨D, p2, _, rfl, s2 _ _ hd, rfl, upd_same, _, rfl, ?_⟩
        rw [sel_ne (fun q : V × Dat => isName q.2) (fun q => q.1)]
        have ez : (xs.zip ds).all (fun q => isName q.2) = ds.all isName := by
          have : (xs.zip ds).map (·.2) = ds := List.map_snd_zip (by rw [hx.length]; exact Nat.le_refl _)
          conv => rhs; rw [← this]
          rw [List.all_map]
          rfl
        rw [ez]
        have s3 := (s1.trans hs).trans s2
        refine ite2 (fun e => ?_) (fun e => ?_)
        · exact no _ s3 (by
            show namesIn ds = false
            unfold namesIn
            have : ds.all isName = false := by simpa using e
            rw [this]; rfl)
        · have hn : ds.all isName = true := by simpa using e
          have hx3 := RepAll.mono (hs.trans s2) _ hx
          have ha3 := s2 _ _ (hs _ _ ha)
          obtain ⟨ev, eq⟩ := dict_end hx3 hn
          refine ⟨_, rfl, a, rfl, ⟨xs, SqL.of ha3⟩, fun D2 hD2 => lc_pairs (walk_list (xs := xs)) (ds.map strOf) (by rw [List.length_map, hx.length]) big hD2 (fun H' s => SqL.of (s _ _ ha3)) ?_ ?_⟩
          · rintro i x y H4 H5 Kt hd4 hs4 ⟨rfl, hy⟩ kt
            have : y = V.str x := by
              rw [ev, List.getElem?_map, hd4] at hy
              exact (Option.some.inj hy).symm
            subst this
            exact ⟨rfl, _, rfl, by show 2 ≤ sizeLine; decide, fun q hq => kt q hq⟩
          · intro H4 ps hs4 hd4 hp4
            refine ⟨D2, ps, (ds.map strOf).map onePair, rfl, SqL.of hd4, ?_, fun p5 hp5 => ?_⟩
            · have : ∀ {as : List Addr} {bs : List (Key × V)}, Paired (fun p (kv : Key × V) => H4 p = some (.tup [kV kv.1, kv.2])) as bs → Paired (fun p kv => SqT K H4 p [kV kv.1, kv.2]) as bs := by
                intro as bs h
                induction h with
                | nil => exact .nil
                | cons a _ ih => exact .cons (SqT.of a) ih
              exact this hp4
            · have s5 := same_upd (o := .dK (mergeK [] ((ds.map strOf).map onePair))) hp5
              refine ⟨p5, _, rfl, upd_same, _, rfl, a, _, rfl, .inl (SqL.of (s5 _ _ (hs4 _ _ ha3))), rfl, ?_⟩
              rw [eq]
              exact k _ ((s3.trans hs4).trans s5)
    | tup ds =>
      refine ⟨_, (pss_cons (ps_if (PW.pt (pw_or (pt_not (pt_val (pe_callB call_isiT (by rfl) T.isinstanceN (by decide +kernel) (pa_cons (pv 0) (pa_cons (pe_tup (pa_cons (pe_bltn (v := .ty "list") (by rfl) T.listN (by decide +kernel) rfl) (pa_cons (pe_bltn (v := .ty "tuple") (by rfl) T.tupleN (by decide +kernel) rfl) pa_nil))) pa_nil))))) (pw_or1 (pt_cmpR (op_ne_lst0 hu) (pe_lc (own := [("one", 1)]) (g := gName 1)  rfl sc_law_are_names.nd (pi_tup (pv 0)) (blkOk_by (N := ["thing", "one"]) (sc := defScope s_law_are_names) (by decide +kernel)) (fun _ _ _ _ _ => (pg_name (i := 1) sc_law_are_names.nd rfl (Or.inl rfl))) (fun _ _ _ _ _ => (pts_one (pt_not (pt_val (pe_def D_law_is_name hc (hr.mono (by decide)) (pa_cons (pv 1) pa_nil)))))) (fun _ _ _ _ _ => (pv 1))) (pe_lst pa_nil) (nomark _)))))
  (pss_one (ps_ret pe_bl))
  pss_nil)
 (pss_one (ps_ret (pe_cmpR op_eq (pe_callB call_lenD (by rfl) T.lenN (by decide +kernel) (pa_cons (pe_callTy (call_dictP rfl) (by rfl) T.dictN (by decide +kernel) (pa_cons (pe_lc (own := [("one", 1)]) (g := gName 1) (tt := tYes) rfl sc_law_are_names.nd (pi_tup (pv 0)) (blkOk_by (N := ["thing", "one"]) (sc := defScope s_law_are_names) (by decide +kernel)) (fun _ _ _ _ _ => (pg_name (i := 1) sc_law_are_names.nd rfl (Or.inl rfl))) (fun _ _ _ _ _ => pts_nil) (fun _ _ _ _ _ => (pe_tup (pa_cons (pv 1) (pa_cons pe_bl pa_nil))))) pa_nil)) pa_nil)) (pe_callB call_len_seq (by rfl) T.lenN (by decide +kernel) (pa_cons (pv 0) pa_nil)) (nomark _))))), ?_⟩
      refine ⟨_, rfl, by show 2 ≤ sizeLine; decide, fun p hp => ?_⟩
      have s1 := same_upd (o := .tup [.ty "list", .ty "tuple"]) hp
      have hv1 := Rep.mono s1 _ hv
      refine ⟨_, p, _, _, _, _, rfl, upd_same, .cons (.ty _) (.cons (.ty _) .nil), hv1.ty, kit_seq hv1, _, rfl, ?_⟩
      refine iteF ?_
      obtain ⟨a, xs, rfl, ha, hx⟩ := hv1
      have big : xs.length < sizeLine := by
        rw [hx.length]
        exact Nat.lt_of_le_of_lt (wd_tup hw).1 (by decide)
      refine ⟨_, rfl, a, rfl, ⟨xs, SqT.of ha⟩, fun D hD => lc_sel (walk_tup (xs := xs)) (xs.zip ds) (fun q => if isName q.2 = true then none else some q.1)
        (by rw [List.length_zip, hx.length]; omega) big hD (fun H' s => SqT.of (s _ _ ha)) ?_ ?_⟩
      · rintro i ⟨v', d'⟩ y H1 H2 Kt Kf hd hs ⟨rfl, hy⟩ kt kf
        obtain ⟨gv, gd⟩ := List.getElem?_zip_eq_some.mp hd
        obtain rfl : v' = y := Option.some.inj (gv.symm.trans hy)
        obtain ⟨d2, hd', hr'⟩ := hx.get hy
        obtain rfl : d2 = d' := Option.some.inj (hd'.symm.trans gd)
        refine ⟨rfl, _, rfl, v', d2, rfl, Rep.mono hs _ hr', (wd_tup hw).2 _ (List.mem_of_getElem? gd), fun H' s => ⟨_, rfl, ?_⟩⟩
        refine ite2 (fun e => ?_) (fun e => ?_)
        · have e' : isName d2 = false := by simpa using e
          exact ⟨_, rfl, kt _ _ s (by simp [e'])⟩
        · have e' : isName d2 = true := by simpa using e
          exact kf _ s (by simp [e'])
      · intro H1 hs hd
        refine ⟨Nat.zero_le _, fun p2 hp2 => ?_⟩
        have s2 := same_upd (o := .lst []) hp2
        refine ⟨D, p2, _, rfl, s2 _ _ hd, rfl, upd_same, _, rfl, ?_⟩
        rw [sel_ne (fun q : V × Dat => isName q.2) (fun q => q.1)]
        have ez : (xs.zip ds).all (fun q => isName q.2) = ds.all isName := by
          have : (xs.zip ds).map (·.2) = ds := List.map_snd_zip (by rw [hx.length]; exact Nat.le_refl _)
          conv => rhs; rw [← this]
          rw [List.all_map]
          rfl
        rw [ez]
        have s3 := (s1.trans hs).trans s2
        refine ite2 (fun e => ?_) (fun e => ?_)
        · exact no _ s3 (by
            show namesIn ds = false
            unfold namesIn
            have : ds.all isName = false := by simpa using e
            rw [this]; rfl)
        · have hn : ds.all isName = true := by simpa using e
          have hx3 := RepAll.mono (hs.trans s2) _ hx
          have ha3 := s2 _ _ (hs _ _ ha)
          obtain ⟨ev, eq⟩ := dict_end hx3 hn
          refine ⟨_, rfl, a, rfl, ⟨xs, SqT.of ha3⟩, fun D2 hD2 => lc_pairs (walk_tup (xs := xs)) (ds.map strOf) (by rw [List.length_map, hx.length]) big hD2 (fun H' s => SqT.of (s _ _ ha3)) ?_ ?_⟩
          · rintro i x y H4 H5 Kt hd4 hs4 ⟨rfl, hy⟩ kt
            have : y = V.str x := by
              rw [ev, List.getElem?_map, hd4] at hy
              exact (Option.some.inj hy).symm
            subst this
            exact ⟨rfl, _, rfl, by show 2 ≤ sizeLine; decide, fun q hq => kt q hq⟩
          · intro H4 ps hs4 hd4 hp4
            refine ⟨D2, ps, (ds.map strOf).map onePair, rfl, SqL.of hd4, ?_, fun p5 hp5 => ?_⟩
            · have : ∀ {as : List Addr} {bs : List (Key × V)}, Paired (fun p (kv : Key × V) => H4 p = some (.tup [kV kv.1, kv.2])) as bs → Paired (fun p kv => SqT K H4 p [kV kv.1, kv.2]) as bs := by
                intro as bs h
                induction h with
                | nil => exact .nil
                | cons a _ ih => exact .cons (SqT.of a) ih
              exact this hp4
            · have s5 := same_upd (o := .dK (mergeK [] ((ds.map strOf).map onePair))) hp5
              refine ⟨p5, _, rfl, upd_same, _, rfl, a, _, rfl, .inr (SqT.of (s5 _ _ (hs4 _ _ ha3))), rfl, ?_⟩
              rw [eq]
              exact k _ ((s3.trans hs4).trans s5)
    | _ =>
      refine ⟨_, (pss_cons (ps_if (PW.pt (pw_or (pt_not (pt_val (pe_callB call_isiT (by rfl) T.isinstanceN (by decide +kernel) (pa_cons (pv 0) (pa_cons (pe_tup (pa_cons (pe_bltn (v := .ty "list") (by rfl) T.listN (by decide +kernel) rfl) (pa_cons (pe_bltn (v := .ty "tuple") (by rfl) T.tupleN (by decide +kernel) rfl) pa_nil))) pa_nil))))) (pw_or1 (pt_cmpR (op_ne_lst0 hu) (pe_lc (own := [("one", 1)]) (g := gName 1)  rfl sc_law_are_names.nd (pi_list (pv 0)) (blkOk_by (N := ["thing", "one"]) (sc := defScope s_law_are_names) (by decide +kernel)) (fun _ _ _ _ _ => (pg_name (i := 1) sc_law_are_names.nd rfl (Or.inl rfl))) (fun _ _ _ _ _ => (pts_one (pt_not (pt_val (pe_def D_law_is_name hc (hr.mono (by decide)) (pa_cons (pv 1) pa_nil)))))) (fun _ _ _ _ _ => (pv 1))) (pe_lst pa_nil) (nomark _)))))
  (pss_one (ps_ret pe_bl))
  pss_nil)
 (pss_one (ps_ret (pe_cmpR op_eq (pe_callB call_lenD (by rfl) T.lenN (by decide +kernel) (pa_cons (pe_callTy (call_dictP rfl) (by rfl) T.dictN (by decide +kernel) (pa_cons (pe_lc (own := [("one", 1)]) (g := gName 1) (tt := tYes) rfl sc_law_are_names.nd (pi_list (pv 0)) (blkOk_by (N := ["thing", "one"]) (sc := defScope s_law_are_names) (by decide +kernel)) (fun _ _ _ _ _ => (pg_name (i := 1) sc_law_are_names.nd rfl (Or.inl rfl))) (fun _ _ _ _ _ => pts_nil) (fun _ _ _ _ _ => (pe_tup (pa_cons (pv 1) (pa_cons pe_bl pa_nil))))) pa_nil)) pa_nil)) (pe_callB call_len_seq (by rfl) T.lenN (by decide +kernel) (pa_cons (pv 0) pa_nil)) (nomark _))))), ?_⟩
      refine ⟨_, rfl, by show 2 ≤ sizeLine; decide, fun p hp => ?_⟩
      have s1 := same_upd (o := .tup [.ty "list", .ty "tuple"]) hp
      have hv1 := Rep.mono s1 _ hv
      refine ⟨_, p, _, _, _, _, rfl, upd_same, .cons (.ty _) (.cons (.ty _) .nil), hv1.ty, kit_seq hv1, _, rfl, ?_⟩
      exact iteT (iteT (no _ s1 rfl))
end
end K

set_option Elab.async false
set_option linter.all false
set_option maxRecDepth 100000
set_option maxHeartbeats 8000000
namespace K
open PySem PySem.Spec PyProof.Rows L2 G D L S C Sx Kx Ex
open C8 (pss_cut tCut)
open PySem.W (dataLt alike)
theorem the_str {d : Dat} {t : Str} (h : d.isThe t = true) : d = .str t := by
  cases d with
  | str x =>
    have : (x == t) = true := h
    rw [beq_iff_eq] at this
    rw [this]
  | _ => cases h
theorem deed_strs {ds : List Dat} (h : isDeed (.tup ds) = true) : ds.all Dat.isStr = true := by
  match ds, h with
  | [k, a], h =>
    rw [isDeed2, Bool.and_eq_true] at h
    obtain ⟨x, rfl⟩ := name_str h.2
    rw [the_str h.1]
    rfl
  | [k, a, b, c], h =>
    rw [isDeed4] at h
    simp only [Bool.and_eq_true] at h
    obtain ⟨⟨⟨_, ha⟩, hb⟩, hc⟩ := h
    obtain ⟨x, rfl⟩ := name_str ha
    obtain ⟨y, rfl⟩ := name_str hb
    by_cases q : k.isThe "hand" = true
    · rw [if_pos q, Bool.and_eq_true] at hc
      obtain ⟨z, rfl⟩ := name_str hc.2
      rw [the_str q]
      rfl
    · rw [if_neg q, Bool.and_eq_true] at hc
      rw [the_str hc.1]
      have g := hc.2
      unfold isGiven at g
      rw [Bool.or_eq_true] at g
      rcases g with g | g
      · obtain ⟨z, rfl⟩ := name_str g
        rfl
      · rw [the_str g]
        rfl
theorem all_strs : ∀ {ds : List Dat}, ds.all Dat.isStr = true → ∃ ts : List Str, ds = ts.map Dat.str
  | [], _ => ⟨[], rfl⟩
  | d :: ds, h => by
    rw [List.all_cons, Bool.and_eq_true] at h
    obtain ⟨ts, rfl⟩ := all_strs h.2
    cases d with
    | str x => exact ⟨x :: ts, rfl⟩
    | _ => cases h.1
theorem asc_range : ∀ (ds : List Dat), asc ds = (List.range (ds.length - 1)).all fun k => dataLt (ds.getD k .non).py (ds.getD (k + 1) .non).py
  | [] => rfl
  | [_] => rfl
  | a :: b :: r => by
    show (dataLt a.py b.py && asc (b :: r)) = _
    rw [asc_range (b :: r)]
    show _ = (List.range (r.length + 1)).all _
    rw [List.range_succ_eq_map, List.all_cons, List.all_map]
    rfl
section
variable {P : Program} {w : World} {K : PySem.W.Frag} {mg : Str → Option Value} {base : Heap}
abbrev s_law_is_deed : Stmt := top 25
theorem sc_law_is_deed : FnScope ["thing", "one"] ["thing"] (defScope s_law_is_deed) := ⟨rfl, rfl, rfl, by decide +kernel, rfl, by decide +kernel, by decide +kernel⟩
theorem ok_law_is_deed {f : Addr} {fd : FuncData} (F : Fun K "_law_is_deed" "_law_is_deed" s_law_is_deed f fd) (T : Bl mg)
    (D_law_is_name : Def P w K mg base 2 "_law_is_name" ["thing"] (spB K Wd isName)) :
    Fn P w K mg base CX0 3 f fd ["thing"] (spB K Wd isDeed) := by
  refine fn_calm F sc_law_is_deed (fun vs H Q E h => ?_) (fun cdv A outer s H vs Q E hc hr h => ?_)
  · obtain ⟨v, d, rfl, _⟩ := h
    rfl
  · obtain ⟨v, d, rfl, hv, hw, k⟩ := h
    have hu := hu_of hr
    have no : ∀ H', Same H H' → isDeed d = false → Q (.bl false) H' := fun H' s e => by
      have z := k H' s
      rw [e] at z
      exact z
    refine ⟨_, (pss_cons (ps_if (PW.pt (pw_or (pt_not (pt_val (pe_callB call_isi (by rfl) T.isinstanceN (by decide +kernel) (pa_cons (pv 0) (pa_cons (pe_bltn (v := .ty "tuple") (by rfl) T.tupleN (by decide +kernel) rfl) pa_nil))))) (pw_or (pt_cmpR (op_eq_tup0 hu) (pv 0) (pe_tup pa_nil) (nomark _)) (pw_or1 (pt_cmpR (op_ne_lst0 hu) (pe_lc (own := [("one", 1)]) (g := gName 1)  rfl sc_law_is_deed.nd (pi_tup (pv 0)) (blkOk_by (N := ["thing", "one"]) (sc := defScope s_law_is_deed) (by decide +kernel)) (fun _ _ _ _ _ => (pg_name (i := 1) sc_law_is_deed.nd rfl (Or.inl rfl))) (fun _ _ _ _ _ => (pts_one (pt_not (pt_val (pe_callB (call_isiK' (K := K) rfl) (by rfl) T.isinstanceN (by decide +kernel) (pa_cons (pv 1) (pa_cons (pe_bltn (v := .ty "str") (by rfl) T.strN (by decide +kernel) rfl) pa_nil))))))) (fun _ _ _ _ _ => (pv 1))) (pe_lst pa_nil) (nomark _))))))
  (pss_one (ps_ret pe_bl))
  pss_nil)
 (pss_cons (ps_if (pt_cmpR (op_eq_str hu) (pe_ix ix_tup (pv 0) pe_int (fun _ _ => rfl)) pe_str (nomark _))
  (pss_one (ps_ret (pe_and (pe_cmpR op_eq (pe_callB call_len_seq (by rfl) T.lenN (by decide +kernel) (pa_cons (pv 0) pa_nil)) pe_int (nomark _)) (pe_one (pe_def D_law_is_name hc (hr.mono (by decide)) (pa_cons (pe_ix ix_tup (pv 0) pe_int (fun _ _ => rfl)) pa_nil))))))
  pss_nil)
 (pss_cons (ps_if (PW.pt (pw_or (pt_cmpR op_ne (pe_callB call_len_seq (by rfl) T.lenN (by decide +kernel) (pa_cons (pv 0) pa_nil)) pe_int (nomark _)) (pw_or (pt_not (pt_val (pe_def D_law_is_name hc (hr.mono (by decide)) (pa_cons (pe_ix ix_tup (pv 0) pe_int (fun _ _ => rfl)) pa_nil)))) (pw_or1 (pt_not (pt_val (pe_def D_law_is_name hc (hr.mono (by decide)) (pa_cons (pe_ix ix_tup (pv 0) pe_int (fun _ _ => rfl)) pa_nil))))))))
  (pss_one (ps_ret pe_bl))
  pss_nil)
 (pss_cons (ps_if (pt_cmpR (op_eq_str hu) (pe_ix ix_tup (pv 0) pe_int (fun _ _ => rfl)) pe_str (nomark _))
  (pss_one (ps_ret (pe_or (pe_cmpR (op_eq_str hu) (pe_ix ix_tup (pv 0) pe_int (fun _ _ => rfl)) pe_str (nomark _)) (pe_one (pe_def D_law_is_name hc (hr.mono (by decide)) (pa_cons (pe_ix ix_tup (pv 0) pe_int (fun _ _ => rfl)) pa_nil))))))
  pss_nil)
 (pss_one (ps_ret (pe_and (pe_cmpR (op_eq_str hu) (pe_ix ix_tup (pv 0) pe_int (fun _ _ => rfl)) pe_str (nomark _)) (pe_and (pe_def D_law_is_name hc (hr.mono (by decide)) (pa_cons (pe_ix ix_tup (pv 0) pe_int (fun _ _ => rfl)) pa_nil)) (pe_one (pe_cmpR op_ne (pe_ix ix_tup (pv 0) pe_int (fun _ _ => rfl)) (pe_ix ix_tup (pv 0) pe_int (fun _ _ => rfl)) (nomark _))))))))))), ?_⟩
    refine ⟨_, rfl, _, _, _, _, _, rfl, .ty "tuple", hv.ty, kit_tup hv, _, rfl, ?_⟩
    cases d with
    | tup ds =>
      refine iteF ?_
      obtain ⟨a, xs, rfl, ha, hx⟩ := id hv
      refine ⟨_, rfl, Nat.zero_le _, fun p hp => ?_⟩
      have s1 := same_upd (o := .tup []) hp
      refine ⟨a, p, xs, rfl, s1 _ _ ha, rfl, upd_same, _, rfl, ?_⟩
      refine ite2 (fun e => ?_) (fun e => ?_)
      · have e2 : ds = [] := List.eq_nil_of_length_eq_zero (by rw [← hx.length]; cases xs with | nil => rfl | cons _ _ => cases e)
        subst e2
        exact iteT (no _ s1 rfl)
      have ha1 := s1 _ _ ha
      have hx1 := RepAll.mono s1 _ hx
      have big : xs.length < sizeLine := by
        rw [hx.length]
        exact Nat.lt_of_le_of_lt (wd_tup hw).1 (by decide)
      refine ⟨_, rfl, a, rfl, ⟨xs, SqT.of ha1⟩, fun D hD => lc_sel (walk_tup (xs := xs)) (xs.zip ds) (fun q => if q.2.isStr = true then none else some q.1)
        (by rw [List.length_zip, hx.length]; omega) big hD (fun H' s => SqT.of (s _ _ ha1)) ?_ ?_⟩
      · rintro i ⟨v', d'⟩ y H1 H2 Kt Kf hd hs ⟨rfl, hy⟩ kt kf
        obtain ⟨gv, gd⟩ := List.getElem?_zip_eq_some.mp hd
        obtain rfl : v' = y := Option.some.inj (gv.symm.trans hy)
        obtain ⟨d2, hd', hr'⟩ := hx1.get hy
        obtain rfl : d2 = d' := Option.some.inj (hd'.symm.trans gd)
        have hr2 := Rep.mono hs _ hr'
        refine ⟨rfl, _, rfl, _, _, _, _, _, rfl, .ty "str", hr2.ty, kit_str hr2, _, rfl, ?_⟩
        refine ite2 (fun e => ?_) (fun e => ?_)
        · have e' : d2.isStr = false := by simpa using e
          exact ⟨_, rfl, kt _ _ (.refl _) (by simp [e'])⟩
        · have e' : d2.isStr = true := by simpa using e
          exact kf _ (.refl _) (by simp [e'])
      · intro H1 hs hd
        refine ⟨Nat.zero_le _, fun p2 hp2 => ?_⟩
        have s2 := same_upd (o := .lst []) hp2
        refine ⟨D, p2, _, rfl, s2 _ _ hd, rfl, upd_same, _, rfl, ?_⟩
        rw [sel_ne (fun q : V × Dat => q.2.isStr) (fun q => q.1)]
        have ez : (xs.zip ds).all (fun q => q.2.isStr) = ds.all Dat.isStr := by
          have : (xs.zip ds).map (·.2) = ds := List.map_snd_zip (by rw [hx.length]; exact Nat.le_refl _)
          conv => rhs; rw [← this]
          rw [List.all_map]
          rfl
        rw [ez]
        have s3 := (s1.trans hs).trans s2
        have ha3 := s3 _ _ ha
        refine ite2 (fun e4 => ?_) (fun e4 => ?_)
        · refine no _ s3 ?_
          by_cases q : isDeed (.tup ds) = true
          · rw [deed_strs q] at e4
            cases e4
          · simpa using q
        · have e5 : ds.all Dat.isStr = true := by simpa using e4
          obtain ⟨ts, rfl⟩ := all_strs e5
          have ex : xs = ts.map V.str := RepAll.strs hx
          subst ex
          generalize upd H1 p2 (.lst []) = H3 at s3 ha3 ⊢
          clear hd s2 hs ez e4 e5
          match ts, ha3, hx, hw, k, no, e with
          | [], _, _, _, _, _, e => exact absurd rfl e
          | tk :: tr, ha3, hx, hw, k, no, _ =>
            have rep : ∀ (t : Str) (H' : Hp), Rep K H' (.str t) (.str t) := fun _ _ => rfl
            have wds : ∀ t ∈ tk :: tr, Wd (.str t) := fun t ht => (wd_tup hw).2 _ (List.mem_map.mpr ⟨t, ht, rfl⟩)
            have the : ∀ (a b : Str), (Dat.str a).isThe b = (a == b) := fun _ _ => rfl
            refine ⟨_, rfl, a, _, _, _, rfl, rfl, SqT.of ha3, atI_nat (j := 0) rfl, .str tk, "throw", rfl, rfl, rfl, _, rfl, ?_⟩
            refine ite2 (fun e1 => ?_) (fun e1 => ?_)
            · refine ⟨_, rfl, a, _, rfl, .inr (SqT.of ha3), rfl, _, rfl, ?_⟩
              rw [dint]
              have z := k H3 s3
              match tr, ha3, wds, k, z with
              | [ta], ha3, wds, k, z =>
                refine iteT ?_
                refine ⟨_, rfl, a, _, _, _, rfl, rfl, SqT.of ha3, rfl, _, .str ta, rfl, rfl, wds ta (by simp), fun H4 s4 => ?_⟩
                have z := k H4 (s3.trans s4)
                simp only [List.map_cons, List.map_nil] at z
                rw [isDeed2, e1, Bool.true_and] at z
                exact z
              | [], ha3, wds, k, z => exact iteF z
              | [t1, t2], ha3, wds, k, z => exact iteF z
              | [t1, t2, t3], ha3, wds, k, z =>
                refine iteF ?_
                simp only [List.map_cons, List.map_nil] at z
                rw [isDeed4, e1] at z
                exact z
              | t1 :: t2 :: t3 :: t4 :: tr, ha3, wds, k, z =>
                refine ite2 (fun e => ?_) (fun e => z)
                have := of_decide_eq_true e
                simp at this
                omega
            · have e1' : (Dat.str tk).isThe "throw" = false := by simpa using e1
              refine ⟨_, rfl, a, _, rfl, .inr (SqT.of ha3), rfl, _, rfl, ?_⟩
              rw [dint]
              have z := k H3 s3
              match tr, ha3, wds, k, z with
              | [ta, tb, tc], ha3, wds, k, z =>
                clear z
                have z : ∀ H', Same H3 H' → Q (.bl (!false && isName (.str ta) && isName (.str tb) && (if (Dat.str tk).isThe "hand" then decide (strOf (.str ta) ≠ strOf (.str tb)) && isName (.str tc) else (Dat.str tk).isThe "call" && isGiven (.str tc)))) H' := by
                  intro H' s'
                  have z := k H' (s3.trans s')
                  simp only [List.map_cons, List.map_nil] at z
                  rw [isDeed4, e1'] at z
                  exact z
                refine iteF ?_
                refine ⟨_, rfl, a, _, _, _, rfl, rfl, SqT.of ha3, rfl, _, .str ta, rfl, rfl, wds ta (by simp), fun H4 s4 => ⟨_, rfl, ?_⟩⟩
                have ha4 := s4 _ _ ha3
                refine ite2 (fun e2 => ?_) (fun e2 => ?_)
                · have e2' : isName (.str ta) = false := by simpa using e2
                  have z := z H4 s4
                  rw [e2'] at z
                  exact iteT z
                · have e2' : isName (.str ta) = true := by simpa using e2
                  refine ⟨_, rfl, a, _, _, _, rfl, rfl, SqT.of ha4, rfl, _, .str tb, rfl, rfl, wds tb (by simp), fun H5 s5 => ⟨_, rfl, ?_⟩⟩
                  have ha5 := s5 _ _ ha4
                  have s35 := s4.trans s5
                  refine ite2 (fun e3 => ?_) (fun e3 => ?_)
                  · have e3' : isName (.str tb) = false := by simpa using e3
                    have z := z H5 s35
                    rw [e2', e3'] at z
                    exact z
                  · have e3' : isName (.str tb) = true := by simpa using e3
                    refine ⟨_, rfl, a, _, _, _, rfl, rfl, SqT.of ha5, rfl, .str tk, "call", rfl, rfl, rfl, _, rfl, ?_⟩
                    refine ite2 (fun e4 => ?_) (fun e4 => ?_)
                    · have q := the_str e4
                      have nh : (Dat.str tk).isThe "hand" = false := by rw [q]; rfl
                      refine ⟨_, rfl, a, _, _, _, rfl, rfl, SqT.of ha5, rfl, .str tc, "", rfl, rfl, rfl, _, rfl, ?_⟩
                      have z0 := z
                      refine ite2 (fun e5 => ?_) (fun e5 => ?_)
                      · have z := z H5 s35
                        rw [e2', e3', nh, e4] at z
                        unfold isGiven at z
                        rw [e5] at z
                        simpa using z
                      · refine ⟨_, rfl, a, _, _, _, rfl, rfl, SqT.of ha5, rfl, _, .str tc, rfl, rfl, wds tc (by simp), fun H6 s6 => ?_⟩
                        have z := z0 H6 (s35.trans s6)
                        have e5' : (Dat.str tc).isThe "" = false := by simpa using e5
                        rw [e2', e3', nh, e4] at z
                        unfold isGiven at z
                        rw [e5'] at z
                        simpa using z
                    · have e4' : (Dat.str tk).isThe "call" = false := by simpa using e4
                      refine ⟨_, rfl, a, _, _, _, rfl, rfl, SqT.of ha5, rfl, .str tk, "hand", rfl, rfl, rfl, _, rfl, ?_⟩
                      refine ite2 (fun e5 => ?_) (fun e5 => ?_)
                      · refine ⟨_, rfl, a, _, _, _, rfl, rfl, SqT.of ha5, rfl, _, .str tc, rfl, rfl, wds tc (by simp), fun H6 s6 => ⟨_, rfl, ?_⟩⟩
                        have ha6 := s6 _ _ ha5
                        have z := z H6 (s35.trans s6)
                        rw [e2', e3', e5] at z
                        refine ite2 (fun e6 => ?_) (fun e6 => ?_)
                        · refine ⟨_, rfl, a, _, _, _, rfl, rfl, SqT.of ha6, rfl, _, rfl, a, _, _, _, rfl, rfl, SqT.of ha6, rfl, rfl, ?_⟩
                          rw [e6] at z
                          by_cases q : ta = tb <;> simpa [q, strOf] using z
                        · have e6' : isName (.str tc) = false := by simpa using e6
                          rw [e6'] at z
                          simpa using z
                      · have e5' : (Dat.str tk).isThe "hand" = false := by simpa using e5
                        have z := z H5 s35
                        rw [e2', e3', e5', e4'] at z
                        simpa using z
              | [], ha3, wds, k, z => exact iteT (iteT z)
              | [t1], ha3, wds, k, z =>
                refine iteT (iteT ?_)
                simp only [List.map_cons, List.map_nil] at z
                rw [isDeed2, e1'] at z
                exact z
              | [t1, t2], ha3, wds, k, z => exact iteT (iteT z)
              | t1 :: t2 :: t3 :: t4 :: tr, ha3, wds, k, z =>
                refine ite2 (fun _ => iteT z) (fun e => ?_)
                have e' := Decidable.byContradiction fun q => e (by
                  show (!decide _) = true
                  rw [decide_eq_false q]; rfl)
                simp at e'
                omega
    | _ => exact iteT (iteT (no H (.refl H) rfl))
abbrev s_law_is_wish : Stmt := top 26
theorem sc_law_is_wish : FnScope ["thing", "one", "k"] ["thing"] (defScope s_law_is_wish) := ⟨rfl, rfl, rfl, by decide +kernel, rfl, by decide +kernel, by decide +kernel⟩
theorem ok_law_is_wish {f : Addr} {fd : FuncData} (F : Fun K "_law_is_wish" "_law_is_wish" s_law_is_wish f fd) (T : Bl mg)
    (D_law_is_name : Def P w K mg base 2 "_law_is_name" ["thing"] (spB K Wd isName)) :
    Fn P w K mg base CX0 3 f fd ["thing"] (spB K Wd isWish) := by
  refine fn_calm F sc_law_is_wish (fun vs H Q E h => ?_) (fun cdv A outer s H vs Q E hc hr h => ?_)
  · obtain ⟨v, d, rfl, _⟩ := h
    rfl
  · obtain ⟨v, d, rfl, hv, hw, k⟩ := h
    have hu := hu_of hr
    have hu64 := hr.units
    have no : ∀ H', Same H H' → isWish d = false → Q (.bl false) H' := fun H' s e => by
      have z := k H' s
      rw [e] at z
      exact z
    refine ⟨_, (pss_cons (ps_if (PW.pt (pw_or (pt_not (pt_val (pe_callB call_isi (by rfl) T.isinstanceN (by decide +kernel) (pa_cons (pv 0) (pa_cons (pe_bltn (v := .ty "tuple") (by rfl) T.tupleN (by decide +kernel) rfl) pa_nil))))) (pw_or1 (pt_cmpR (op_eq_tup0 hu) (pv 0) (pe_tup pa_nil) (nomark _)))))
  (pss_one (ps_ret pe_bl))
  pss_nil)
 (pss_cons (ps_for PassesOwn.never rfl (pi_tup (pv 0)) (pg_name (i := 1) sc_law_is_wish.nd rfl (Or.inl rfl))
  (pss_one (ps_if (PW.pt (pw_or (pt_not (pt_val (pe_callB call_isi (by rfl) T.isinstanceN (by decide +kernel) (pa_cons (pv 1) (pa_cons (pe_bltn (v := .ty "tuple") (by rfl) T.tupleN (by decide +kernel) rfl) pa_nil))))) (pw_or (pt_cmpR op_ne (pe_callB call_len_seq (by rfl) T.lenN (by decide +kernel) (pa_cons (pv 1) pa_nil)) pe_int (nomark _)) (pw_or (pt_not (pt_val (pe_def D_law_is_name hc (hr.mono (by decide)) (pa_cons (pe_ix ix_tup (pv 1) pe_int (fun _ _ => rfl)) pa_nil)))) (pw_or1 (pt_not (pt_val (pe_def D_law_is_name hc (hr.mono (by decide)) (pa_cons (pe_ix ix_tup (pv 1) pe_int (fun _ _ => rfl)) pa_nil)))))))))
  (pss_one (ps_ret pe_bl))
  pss_nil)))
 (pss_one (ps_ret (pe_cmpR (op_eq_lst0 hu) (pe_lc (own := [("k", 2)]) (g := gName 2)  rfl sc_law_is_wish.nd (pi_range1 rfl T.rangeN (pa_cons (pe_op op_sub (pe_callB call_len_seq (by rfl) T.lenN (by decide +kernel) (pa_cons (pv 0) pa_nil)) pe_int) pa_nil)) (blkOk_by (N := ["thing", "one", "k"]) (sc := defScope s_law_is_wish) (by decide +kernel)) (fun _ _ _ _ _ => (pg_name (i := 2) sc_law_is_wish.nd rfl (Or.inl rfl))) (fun _ _ _ _ _ => (pts_one (pt_cmpR (op_geAK (K := K) rfl hu64) (pe_ix (ix_tupK (K := K) rfl) (pv 0) (pv 2) (fun _ _ => rfl)) (pe_ix (ix_tupK (K := K) rfl) (pv 0) (pe_op op_add (pv 2) pe_int) (fun _ _ => rfl)) (nomark _)))) (fun _ _ _ _ _ => (pv 2))) (pe_lst pa_nil) (nomark _)))))), ?_⟩
    refine ⟨_, rfl, _, _, _, _, _, rfl, .ty "tuple", hv.ty, kit_tup hv, _, rfl, ?_⟩
    cases d with
    | tup ds =>
      refine iteF ?_
      obtain ⟨a, xs, rfl, ha, hx⟩ := id hv
      refine ⟨_, rfl, Nat.zero_le _, fun p hp => ?_⟩
      have s1 := same_upd (o := .tup []) hp
      refine ⟨a, p, xs, rfl, s1 _ _ ha, rfl, upd_same, _, rfl, ?_⟩
      refine ite2 (fun e => ?_) (fun e => ?_)
      · have e2 : ds = [] := List.eq_nil_of_length_eq_zero (by rw [← hx.length]; cases xs with | nil => rfl | cons _ _ => cases e)
        subst e2
        exact no _ s1 rfl
      have ha1 := s1 _ _ ha
      have hx1 := RepAll.mono s1 _ hx
      have ne : xs ≠ [] := fun z => e (by rw [z]; rfl)
      have lx := hx.length
      have big : xs.length < sizeLine := by
        rw [hx.length]
        exact Nat.lt_of_le_of_lt (wd_tup hw).1 (by decide)
      have bad : ∀ H', Same H H' → ∀ i d, ds[i]? = some d → isPair d = false → Q (.bl false) H' := fun H' s' i d hd hp => no H' s' (by
        have : ds.all isPair = false := by
          rw [List.all_eq_false]
          exact ⟨d, List.mem_of_getElem? hd, by rw [hp]; decide⟩
        show (!ds.isEmpty && ds.all isPair && asc ds) = false
        rw [this]
        simp)
      refine ⟨_, rfl, a, rfl, ⟨xs, SqT.of ha1⟩, for_it (walk_tup (xs := xs)) (fun i σ H' => (∃ o : Option V, σ = [some (.ref a), o, none]) ∧ Same H H' ∧ ∀ d ∈ ds.take i, isPair d = true)
        ⟨⟨none, rfl⟩, s1, by simp⟩ (fun i σ H' _ h => SqT.of (h.2.1 _ _ ha)) ?_ ?_⟩
      · rintro i y σ H1 H2 hi ⟨⟨o, rfl⟩, s2, hall⟩ ⟨rfl, hy⟩
        obtain ⟨d', hd', hr0⟩ := hx.get hy
        have hr' := Rep.mono s2 _ hr0
        have hwd := (wd_tup hw).2 _ (List.mem_of_getElem? hd')
        refine ⟨_, rfl, _, _, _, _, _, rfl, .ty "tuple", hr'.ty, kit_tup hr', _, rfl, ?_⟩
        cases d' with
        | tup es =>
          refine iteF ?_
          obtain ⟨b, ys, rfl, hb, hys⟩ := id hr'
          refine ⟨_, rfl, b, _, rfl, .inr (SqT.of hb), rfl, _, rfl, ?_⟩
          rw [dint]
          match es, ys, hys, hd', hwd, hb with
          | [d1, d2], _, ⟨x1, _, rfl, h1, x2, _, rfl, h2, rfl⟩, hd', hwd, hb =>
            refine iteF ?_
            refine ⟨_, rfl, b, _, _, _, rfl, rfl, SqT.of hb, rfl, _, d1, rfl, h1, (wd_tup hwd).2 _ (by simp), fun H3 s3 => ⟨_, rfl, ?_⟩⟩
            refine ite2 (fun e1 => ?_) (fun e1 => ?_)
            · refine iteT (bad H3 (s2.trans s3) i _ hd' ?_)
              have : isName d1 = false := by simpa using e1
              show (isName d1 && isName d2) = false
              rw [this]; rfl
            · refine ⟨_, rfl, b, _, _, _, rfl, rfl, SqT.of (s3 _ _ hb), rfl, _, d2, rfl, Rep.mono s3 _ h2, (wd_tup hwd).2 _ (by simp), fun H4 s4 => ⟨_, rfl, ?_⟩⟩
              have f1 : isName d1 = true := by simpa using e1
              refine ite2 (fun e2 => ?_) (fun e2 => ?_)
              · refine bad H4 ((s2.trans s3).trans s4) i _ hd' ?_
                have : isName d2 = false := by simpa using e2
                show (isName d1 && isName d2) = false
                rw [this, f1]; rfl
              · have f2 : isName d2 = true := by simpa using e2
                refine ⟨⟨_, rfl⟩, (s2.trans s3).trans s4, fun d hd => ?_⟩
                rw [List.take_add_one, hd', List.mem_append] at hd
                rcases hd with hd | hd
                · exact hall d hd
                · rw [show d = .tup [d1, d2] by simpa using hd]
                  show (isName d1 && isName d2) = true
                  rw [f1, f2]; rfl
          | [], _, hys, hd', hwd, hb =>
            cases (show _ = [] from hys)
            exact iteT (iteT (bad _ s2 i _ hd' rfl))
          | [d1], _, ⟨x1, _, rfl, h1, rfl⟩, hd', hwd, hb => exact iteT (iteT (bad _ s2 i _ hd' rfl))
          | d1 :: d2 :: d3 :: r, _, ⟨x1, _, rfl, _, x2, _, rfl, _, x3, yr, rfl, _, _⟩, hd', hwd, hb =>
            refine ite2 (fun _ => iteT (bad _ s2 i _ hd' rfl)) (fun e => ?_)
            have e' := Decidable.byContradiction fun q => e (by
              show (!decide _) = true
              rw [decide_eq_false q]; rfl)
            simp at e'
            omega
        | _ => exact iteT (iteT (bad _ s2 i _ hd' rfl))
      · rintro σ H1 ⟨⟨o, rfl⟩, s2, hall⟩
        have hall' : ds.all isPair = true := by
          rw [List.all_eq_true]
          intro d hd
          exact hall d (by rw [lx, List.take_length]; exact hd)
        have ha2 := s2 _ _ ha
        have hx2 := RepAll.mono s2 _ hx
        have l1 : 1 ≤ xs.length := by
          cases xs with
          | nil => exact absurd rfl ne
          | cons _ _ => simp
        have l9 : xs.length ≤ 100000 := by rw [lx]; exact (wd_tup hw).1
        have en : (((xs.length : Nat) : Int) - 1).toNat = ds.length - 1 := by omega
        refine ⟨_, rfl, a, _, rfl, .inr (SqT.of ha2), _, _, rfl, rfl, _, rfl, by omega, by omega, fun D hD => ?_⟩
        rw [en]
        refine lc_sel walk_range (List.range (ds.length - 1)) (fun k => if dataLt (ds.getD k .non).py (ds.getD (k + 1) .non).py = true then none else some (.int (0 + (k : Nat))))
          (by simp) (by rw [← lx]; omega) hD (fun _ _ => trivial) ?_ ?_
        · rintro i kk y H3 H4 Kt Kf hk hs ⟨rfl, rfl⟩ kt kf
          have hi : i < ds.length - 1 := by
            have := (List.getElem?_eq_some_iff.mp hk).1
            simpa using this
          obtain rfl : kk = i := by
            rw [List.getElem?_range hi] at hk
            exact (Option.some.inj hk).symm
          have hx3 := RepAll.mono hs _ hx2
          have g1 : ds[kk]? = some (ds.getD kk .non) := by rw [List.getD_eq_getElem?_getD, List.getElem?_eq_getElem (by omega)]; rfl
          have g2 : ds[kk + 1]? = some (ds.getD (kk + 1) .non) := by rw [List.getD_eq_getElem?_getD, List.getElem?_eq_getElem (by omega)]; rfl
          obtain ⟨v1, w1, r1⟩ := RepAll.nth hx3 g1
          obtain ⟨v2, w2, r2⟩ := RepAll.nth hx3 g2
          have pa : isPair (ds.getD kk .non) = true := List.all_eq_true.mp hall' _ (List.mem_of_getElem? g1)
          have pb : isPair (ds.getD (kk + 1) .non) = true := List.all_eq_true.mp hall' _ (List.mem_of_getElem? g2)
          obtain ⟨q1, q2, q3, q4, q5⟩ := pair_alike pa pb
          have i1 : atI xs (0 + (kk : Int)) = some v1 := by rw [Int.zero_add]; exact atI_nat w1
          have i2 : atI xs (0 + (kk : Int) + 1) = some v2 := by
            have := atI_nat w2
            rw [Int.zero_add]
            exact this
          refine ⟨rfl, _, rfl, _, rfl, a, _, _, _, rfl, rfl, SqT.of (hs _ _ ha2), i1, _, rfl, _, rfl, _, _, rfl, rfl, a, _, _, _, rfl, rfl, SqT.of (hs _ _ ha2), i2,
            _, _, r1, r2, q1, q2, q3, q4, q5, _, rfl, ?_⟩
          refine ite2 (fun e => ?_) (fun e => ?_)
          · have e' : dataLt (ds.getD kk .non).py (ds.getD (kk + 1) .non).py = false := by simpa using e
            exact ⟨_, rfl, kt _ _ (.refl _) (by rw [e']; rfl)⟩
          · have e' : dataLt (ds.getD kk .non).py (ds.getD (kk + 1) .non).py = true := by simpa using e
            exact kf _ (.refl _) (by rw [e']; rfl)
        · intro H3 hs hd
          refine ⟨Nat.zero_le _, fun p2 hp2 => ?_⟩
          have s3 := same_upd (o := .lst []) hp2
          refine ⟨D, p2, _, rfl, s3 _ _ hd, rfl, upd_same, ?_⟩
          rw [sel_empty, ← asc_range]
          have z := k _ ((s2.trans hs).trans s3)
          have q : isWish (.tup ds) = asc ds := by
            show (!ds.isEmpty && ds.all isPair && asc ds) = _
            rw [hall']
            cases ds with
            | nil => rw [List.length_nil] at lx; omega
            | cons _ _ => rfl
          rw [q] at z
          exact z
    | _ => exact iteT (no H (.refl H) rfl)
end
end K

set_option Elab.async false
set_option linter.all false
set_option maxRecDepth 100000
set_option maxHeartbeats 8000000
namespace K
open PySem PySem.Spec PyProof.Rows L2 G D L
open C8 (pss_cut tCut)

abbrev s_law_take : Stmt := top 18
theorem sc_law_take : FnScope ["bag", "many", "cell", "mixed", "drawn", "begin", "second"] ["bag", "many"] (defScope s_law_take) := ⟨rfl, rfl, rfl, by decide +kernel, rfl, by decide +kernel, by decide +kernel⟩
section
variable {P : Program} {w : World} {K : PySem.W.Frag} {mg : Str → Option Value} {base : Heap}
theorem ok_take {f : Addr} {fd : FuncData} (F : Fun K "_law_take" "_law_take" s_law_take f fd) (T : Bl mg) :
    Fn P w K mg base CX0 2 f fd ["bag", "many"] spTake := by
  refine fn_calm F sc_law_take (fun vs H Q E h => ?_) (fun cdv A outer s H vs Q E hc hr h => ?_)
  · obtain ⟨b, m, rfl, _⟩ := h
    rfl
  · obtain ⟨b, m, rfl, ⟨l, hB⟩, m0, m1, k⟩ := h
    obtain ⟨c0, c1, c2, ms, h1, h2, p0, p1, p1', p2, pl, pm⟩ := id hB
    refine ⟨_, (pss_cut (ps_if (pt_cmpR op_eq (pe_ix ix_list (pv 0) pe_int (fun _ _ => rfl)) pe_int (nomark _))
  (pss_cons (ps_set (i := 2) sc_law_take.nd rfl (Or.inl rfl) pe_int)
 (pss_cut (ps_if (pt_cmpR op_lt (pe_ix ix_list (pv 0) pe_int (fun _ _ => rfl)) (pe_callB call_len (by rfl) T.lenN (by decide +kernel) (pa_cons (pe_ix ix_list (pv 0) pe_int (fun _ _ => rfl)) pa_nil)) (nomark _))
  (pss_one (ps_set (i := 2) sc_law_take.nd rfl (Or.inl rfl) (pe_ix ix_seq (pe_ix ix_list (pv 0) pe_int (fun _ _ => rfl)) (pe_ix ix_list (pv 0) pe_int (fun _ _ => rfl)) (fun _ _ => rfl))))
  pss_nil)
 (pss_cons (ps_augS (pv 0) pe_int pget_list pe_int ip_add set_list)
 (pss_cut (ps_if (pt_cmpR op_ge (pv 2) (pe_op op_pow pe_int pe_int) (nomark _))
  (pss_one (ps_asg (pv 2) (pg_sub (pv 0) pe_int set_list)))
  pss_nil)
 (pss_cons (ps_set (i := 3) sc_law_take.nd rfl (Or.inl rfl) (pe_op op_add (pe_op op_add (pe_op op_mul (pe_ix ix_list (pv 0) pe_int (fun _ _ => rfl)) pe_int) (pe_op op_mod (pe_callTy call_int1 (by rfl) T.intN (by decide +kernel) (pa_cons (pv 2) pa_nil)) pe_int)) (pe_op op_mul pe_int (pe_ix ix_list (pv 0) pe_int (fun _ _ => rfl)))))
 (pss_one (ps_asg (pe_op op_mod (pe_callTy call_int1 (by rfl) T.intN (by decide +kernel) (pa_cons (pv 3) pa_nil)) pe_int) (pg_sub (pv 0) pe_int set_list))))))))
  pss_nil)
 (pss_cons (ps_if (pt_cmpR op_gt (pe_ix ix_list (pv 0) pe_int (fun _ _ => rfl)) pe_int (nomark _))
  (pss_cons (ps_set (i := 4) sc_law_take.nd rfl (Or.inl rfl) (pe_op op_modN (pe_callTy call_int1 (by rfl) T.intN (by decide +kernel) (pa_cons (pe_ix ix_list (pv 0) pe_int (fun _ _ => rfl)) pa_nil)) (pv 1)))
 (pss_cons (ps_asg (pe_op op_fdivN (pe_ix ix_list (pv 0) pe_int (fun _ _ => rfl)) (pv 1)) (pg_sub (pv 0) pe_int set_list))
 (pss_one (ps_ret (pv 4)))))
  pss_nil)
 (pss_cons (ps_set (i := 5) sc_law_take.nd rfl (Or.inl rfl) (pe_op op_mod (pe_callTy call_int1 (by rfl) T.intN (by decide +kernel) (pa_cons (pe_op op_mul (pe_op op_add (pe_ix ix_list (pv 0) pe_int (fun _ _ => rfl)) pe_int) pe_int) pa_nil)) pe_int))
 (pss_cons (ps_set (i := 6) sc_law_take.nd rfl (Or.inl rfl) (pe_op op_mod (pe_callTy call_int1 (by rfl) T.intN (by decide +kernel) (pa_cons (pe_op op_mul (pe_op op_mod (pe_callTy call_int1 (by rfl) T.intN (by decide +kernel) (pa_cons (pe_op op_mul (pv 5) (pv 5)) pa_nil)) pe_int) pe_int) pa_nil)) pe_int))
 (pss_one (ps_ret (pe_op op_modN (pe_callTy call_int1 (by rfl) T.intN (by decide +kernel) (pa_cons (pe_op op_fdiv (pv 6) pe_int) pa_nil)) (pv 1)))))))), ?_⟩
    have nlb : l ≠ b := ne_of h2 h1 (fun z => by
      have z' := (HO.lst.inj z)
      cases ms with
      | nil => cases z'
      | cons a r => cases r with
        | nil => cases z'
        | cons a2 r => cases r with
          | nil => cases z'
          | cons a3 r => cases r with
            | nil => cases z'
            | cons a4 r => cases z')
    -- the bag's first place is nought, or a draw is still in it
    refine ⟨fun σ' H' => ∃ (d0 d1 d2 : Int) (x y : Option V), σ' = [some (.ref b), some (.int m), x, y, none, none, none] ∧ SameBut b H H' ∧
      H' b = some (.lst [.int d0, .int d1, .int d2, .ref l]) ∧ 0 ≤ d0 ∧ 0 ≤ d1 ∧ d1 < 2147483648 ∧ 0 ≤ d2, ?_, ?_⟩
    · refine ⟨_, rfl, b, _, _, _, rfl, rfl, SqL.of h1, rfl, rfl, _, rfl, ?_⟩
      refine ite2 (fun e0 => ?_) (fun e0 => ?_)
      · refine ⟨fun σ' H' => ∃ c : Int, σ' = [some (.ref b), some (.int m), some (.int c), none, none, none, none] ∧ H' = H ∧ 0 ≤ c, ?_, ?_⟩
        · refine ⟨_, rfl, b, _, _, _, rfl, rfl, SqL.of h1, rfl, _, rfl, b, _, _, _, rfl, rfl, SqL.of h1, rfl, _, _, rfl, .inl ⟨_, SqL.of h2, rfl⟩, _, _, rfl, rfl, _, rfl, ?_⟩
          refine ite2 (fun e1 => ?_) (fun e1 => ?_)
          · have e1' := of_decide_eq_true e1
            rw [List.length_map] at e1'
            have hj : c2.toNat < ms.length := by omega
            have hx : (ms.map V.int)[c2.toNat]? = some (.int (ms[c2.toNat])) := by rw [List.getElem?_map, List.getElem?_eq_getElem hj]; rfl
            have hx' := atI_nat hx
            rw [Int.toNat_of_nonneg p2] at hx'
            refine ⟨_, rfl, b, _, _, _, rfl, rfl, SqL.of h1, rfl, _, rfl, b, _, _, _, rfl, rfl, SqL.of h1, rfl, .inl ⟨_, _, _, _, rfl, rfl, SqL.of h2, hx', ?_⟩⟩
            exact ⟨_, rfl, rfl, pm _ (List.getElem_mem hj)⟩
          · exact ⟨0, rfl, rfl, Int.le_refl _⟩
        · rintro σ' H' ⟨c, rfl, rfl, hc0⟩
          refine ⟨_, rfl, b, _, _, _, rfl, rfl, SqL.of h1, rfl, _, _, rfl, rfl, b, _, _, 2, rfl, rfl, h1, rfl, ?_⟩
          refine ⟨fun σ' H1 => ∃ d : Int, σ' = [some (.ref b), some (.int m), some (.int c), none, none, none, none] ∧ SameBut b H' H1 ∧ H1 b = some (.lst [.int d, .int c1, .int (c2 + 1), .ref l]) ∧ 0 ≤ d, ?_, ?_⟩
          · refine ⟨_, rfl, _, _, rfl, rfl, ⟨by decide, by decide, by decide⟩, _, _, rfl, rfl, _, rfl, ?_⟩
            refine ite2 (fun e1 => ?_) (fun e1 => ?_)
            · exact ⟨_, rfl, _, rfl, b, _, _, 0, rfl, rfl, upd_same, rfl, c, rfl, fun x o n e => by rw [upd_ne n, upd_ne n]; exact e, upd_same, hc0⟩
            · exact ⟨c0, rfl, fun x o n e => by rw [upd_ne n]; exact e, upd_same, p0⟩
          · rintro σ' H1 ⟨d, rfl, sb, g1, hd⟩
            refine ⟨_, rfl, b, _, _, _, rfl, rfl, SqL.of g1, rfl, _, _, rfl, rfl, .inl ⟨by omega, by omega⟩, _, rfl, .inl ⟨_, rfl, _, _, rfl, rfl, by show (0 : Int) < 2147483647; decide, _, _, rfl, rfl, ?_⟩⟩
            refine ⟨_, rfl, b, _, _, _, rfl, rfl, SqL.of g1, rfl, _, _, rfl, rfl, .inl ⟨by decide, by decide⟩, _, _, rfl, rfl, ?_⟩
            refine ⟨_, rfl, .inl ⟨_, rfl, _, _, rfl, rfl, by show (0 : Int) < 2147483647; decide, _, rfl, b, _, _, 1, rfl, rfl, g1, rfl, ?_⟩⟩
            refine ⟨d, _, c2 + 1, _, _, rfl, fun x o n e => by rw [upd_ne n]; exact sb x o n e, upd_same, hd, ?_, ?_, by omega⟩
            · exact Int.emod_nonneg _ (by decide)
            · exact Int.lt_trans (Int.emod_lt_of_pos _ (by decide)) (by decide)
      · exact ⟨c0, c1, c2, none, none, rfl, .refl _ _, h1, p0, p1, p1', p2⟩
    · rintro σ' H' ⟨d0, d1, d2, x, y, rfl, sb, g1, q0, q1, q1', q2⟩
      have g2 := sb _ _ nlb h2
      refine ⟨_, rfl, b, _, _, _, rfl, rfl, SqL.of g1, rfl, _, _, rfl, rfl, _, rfl, ?_⟩
      refine ite2 (fun e0 => ?_) (fun e0 => ?_)
      · refine ⟨_, rfl, b, _, _, _, rfl, rfl, SqL.of g1, rfl, .inl ⟨_, rfl, _, rfl, _, _, rfl, rfl, by show m ≠ 0; omega, ?_⟩⟩
        refine ⟨_, rfl, b, _, _, _, rfl, rfl, SqL.of g1, rfl, _, rfl, _, _, rfl, rfl, ⟨by omega, by omega⟩, _, rfl, b, _, _, 0, rfl, rfl, g1, rfl, ?_⟩
        refine ⟨_, rfl, k _ _ ?_ ?_ (fun x o n e => by rw [upd_ne n]; exact sb x o n e) ⟨l, hB, _, _, _, _, upd_same, by rw [upd_ne nlb]; exact g2, ?_, q1, q1', q2, pl, pm⟩⟩
        · rw [Int.fmod_eq_emod_of_nonneg _ (by omega)]; exact Int.emod_nonneg _ (by omega)
        · rw [Int.fmod_eq_emod_of_nonneg _ (by omega)]; exact Int.emod_lt_of_pos _ m0
        · rw [Int.fdiv_eq_ediv_of_nonneg _ (by omega)]; exact Int.ediv_nonneg q0 (by omega)
      · refine ⟨_, rfl, b, _, _, _, rfl, rfl, SqL.of g1, rfl, _, _, rfl, rfl, _, _, rfl, rfl, .inl ⟨by omega, by omega⟩, .inl ⟨_, rfl, _, _, rfl, rfl, by show (0 : Int) < 1000000007; decide, ?_⟩⟩
        have b1 : 0 ≤ (d1 + 1) * 39373 % 1000000007 := Int.emod_nonneg _ (by decide)
        have b2 : (d1 + 1) * 39373 % 1000000007 < 1000000007 := Int.emod_lt_of_pos _ (by decide)
        generalize (d1 + 1) * 39373 % 1000000007 = z at b1 b2 ⊢
        refine ⟨_, rfl, _, rfl, _, _, rfl, rfl, .inl ⟨by omega, by omega⟩, .inl ⟨_, rfl, _, _, rfl, rfl, by show (0 : Int) < 998244353; decide, ?_⟩⟩
        have b3 : 0 ≤ z * z % 998244353 := Int.emod_nonneg _ (by decide)
        have b4 : z * z % 998244353 < 998244353 := Int.emod_lt_of_pos _ (by decide)
        generalize z * z % 998244353 = z2 at b3 b4 ⊢
        refine ⟨_, _, rfl, rfl, .inl ⟨by omega, by omega⟩, .inl ⟨_, rfl, _, _, rfl, rfl, by show (0 : Int) < 998244353; decide, ?_⟩⟩
        have b5 : 0 ≤ z2 * 30011 % 998244353 := Int.emod_nonneg _ (by decide)
        generalize z2 * 30011 % 998244353 = z3 at b5 ⊢
        refine ⟨_, rfl, _, _, rfl, rfl, ⟨by decide, by decide⟩, .inl ⟨_, rfl, _, rfl, _, _, rfl, rfl, by show m ≠ 0; omega, ?_⟩⟩
        refine k _ _ ?_ ?_ sb ⟨l, hB, _, _, _, _, g1, g2, q0, q1, q1', q2, pl, pm⟩
        · rw [Int.fmod_eq_emod_of_nonneg _ (by omega)]; exact Int.emod_nonneg _ (by omega)
        · rw [Int.fmod_eq_emod_of_nonneg _ (by omega)]; exact Int.emod_lt_of_pos _ m0
end
end K

set_option Elab.async false
set_option linter.all false
set_option maxRecDepth 100000
set_option maxHeartbeats 8000000
namespace K
open PySem PySem.Spec PyProof.Rows L2 G D L S C Sx Kx Ex Lt
open Fz hiding Fr
open C8 (pss_cut tCut)
open PySem.W (dataLt alike)
/-- fit to be shown, as a reckoning -/
def fineB (k n : Nat) (d : Dat) : Bool := d.pure && d.py.showable && decide (d.py.depth ≤ k) && decide (d.py.shown.length ≤ n)
theorem fine_of {k n : Nat} {d : Dat} (h : fineB k n d = true) : Fine k n d := by
  unfold fineB at h
  simp only [Bool.and_eq_true, decide_eq_true_eq] at h
  exact ⟨h.1.1.1, h.1.1.2, h.1.2, h.2⟩
/-- how many items stand at the top -/
def top1 : Dat → Nat
  | .lst ds => ds.length
  | .tup ds => ds.length
  | _ => 0
structure Gd (d : Dat) : Prop where
  fi : Fine 8 4000 d
  wd : Wd d
  tp : top1 d ≤ 1000
abbrev gdB (d : Dat) : Bool := fineB 8 4000 d && wd d && decide (top1 d ≤ 1000)
theorem gd_of {d : Dat} (h : gdB d = true) : Gd d := by
  simp only [gdB, Bool.and_eq_true, decide_eq_true_eq] at h
  exact ⟨fine_of h.1.1, h.1.2, h.2⟩
theorem rep_mem {K : PySem.W.Frag} {H : Hp} {ds : List Dat} {vs : List V} {v : V} (r : RepAll K H vs ds) (h : v ∈ vs) : ∃ d ∈ ds, Rep K H v d := by
  obtain ⟨i, hi, e⟩ := List.mem_iff_getElem.mp h
  obtain ⟨d, hd, q⟩ := r.get (show vs[i]? = some v by rw [List.getElem?_eq_getElem hi, e])
  exact ⟨d, List.mem_of_getElem? hd, q⟩
/-- a fresh bag -/
def spBag (K : PySem.W.Frag) : Sp := fun vs H Q _ => ∃ (a : Addr) (ns : List Int), vs = [.ref a] ∧ SqL K H a (ns.map V.int) ∧ ns.length ≤ 63 ∧
  ∀ b l H', H b = none → H l = none → Same H H' → BagL H' b l → Q (.ref b) H'
/-- equal data, written alike -/
def spAlike (K : PySem.W.Frag) : Sp := fun vs H Q _ => ∃ (v u : V) (d : Dat), vs = [v, u] ∧ Rep K H v d ∧ Rep K H u d ∧ d.py.canLay0 = true ∧ Fine 40 sizeLine d ∧ Q (.bl true) H
section
variable {K : PySem.W.Frag} {H : Hp}
mutual
theorem rep_dp : ∀ (d : Dat) {v : V}, Rep K H v d → d.pure = true → d.py.canLay0 = true → Dp K H v d.py
  | .non, _, h, _, _ => by cases (show _ = V.non from h); exact .non
  | .bl b, _, h, _, _ => by cases (show _ = V.bl b from h); exact .bl b
  | .int i, _, h, _, _ => by cases (show _ = V.int i from h); exact .int i
  | .str x, _, h, _, _ => by cases (show _ = V.str x from h); exact .str x
  | .lst ds, _, ⟨a, xs, e, ha, hs⟩, p, c => by
    subst e
    exact .lst (SqL.of ha) (rep_dpAll ds hs p (by simpa [Dat.py, PyData.canLay0] using c))
  | .tup ds, _, ⟨a, xs, e, ha, hs⟩, p, c => by
    subst e
    exact .tup (SqT.of ha) (rep_dpAll ds hs p (by simpa [Dat.py, PyData.canLay0] using c))
  | .dct ks ds, _, _, _, c => by simp [Dat.py, PyData.canLay0] at c
  | .obj _ _, _, _, p, _ => by cases p
theorem rep_dpAll : ∀ (ds : List Dat) {vs : List V}, RepAll K H vs ds → pureAll ds = true → PyData.canLayAll0 (pyAll ds) = true → DpAll K H vs (pyAll ds)
  | [], _, h, _, _ => by cases (show _ = [] from h); exact .nil
  | d :: ds, _, ⟨v, t, e, h1, h2⟩, p, c => by
    subst e
    have p' : (d.pure && pureAll ds) = true := p
    rw [Bool.and_eq_true] at p'
    have c' : d.py.canLay0 = true ∧ PyData.canLayAll0 (pyAll ds) = true := by
      simpa [pyAll, PyData.canLayAll0] using c
    exact .cons (rep_dp d h1 p'.1 c'.1) (rep_dpAll ds h2 p'.2 c'.2)
end
end
section
variable {P : Program} {w : World} {K : PySem.W.Frag} {mg : Str → Option Value} {base : Heap}
abbrev s_law_bag : Stmt := top 17
theorem sc_law_bag : FnScope ["script", "cell"] ["script"] (defScope s_law_bag) := ⟨rfl, rfl, rfl, by decide +kernel, rfl, by decide +kernel, by decide +kernel⟩
theorem ok_bag {f : Addr} {fd : FuncData} (F : Fun K "_law_bag" "_law_bag" s_law_bag f fd) (T : Bl mg) : Fn P w K mg base CX0 2 f fd ["script"] (spBag K) := by
  refine fn_calm F sc_law_bag (fun vs H Q E h => ?_) (fun cdv A outer s H vs Q E hc hr h => ?_)
  · obtain ⟨a, ns, rfl, _⟩ := h
    rfl
  · obtain ⟨a, ns, rfl, ha, hl, k⟩ := h
    refine ⟨_, (pss_one (ps_ret (pe_lst (pa_cons pe_int (pa_cons pe_int (pa_cons pe_int (pa_cons (pe_lc (own := [("cell", 1)]) (g := gName 1) (tt := tYes) rfl sc_law_bag.nd (pi_list (pe_slice sl_list (pv 0) po_none (po_some pe_int))) (blkOk_by (N := ["script", "cell"]) (sc := defScope s_law_bag) (by decide +kernel)) (fun _ _ _ _ _ => (pg_name (i := 1) sc_law_bag.nd rfl (Or.inl rfl))) (fun _ _ _ _ _ => pts_nil) (fun _ _ _ _ _ => (pe_callB call_abs (by rfl) T.absN (by decide +kernel) (pa_cons (pv 1) pa_nil)))) pa_nil))))))), ?_⟩
    refine ⟨_, rfl, _, rfl, a, _, rfl, ha, fun p hp => ?_⟩
    have ec : cutV (ns.map V.int) none (some 63) = (ns.take 63).map V.int := by
      unfold cutV
      rw [List.length_map]
      have e1 : HT.sIx ns.length 0 none = 0 := rfl
      have e2 : HT.sIx ns.length ns.length (some 63) = min 63 ns.length := by simp [HT.sIx]
      rw [e1, e2, List.drop_zero, Nat.sub_zero, ← List.map_take, Nat.min_eq_right hl, List.take_length]
      rw [List.take_of_length_le hl]
    have s1 := same_upd (o := .lst (cutV (ns.map V.int) none (some 63))) hp
    rw [ec] at s1 ⊢
    refine ⟨p, rfl, ⟨_, SqL.of upd_same⟩, fun D hD => ?_⟩
    have l1 : (ns.take 63).length ≤ 63 := List.length_take_le _ _
    have ab : ∀ i : Int, 0 ≤ (if i < 0 then -i else i) := fun i => by split <;> omega
    refine lc_map (walk_list (xs := (ns.take 63).map V.int)) (ns.take 63) (fun i => .int (if i < 0 then -i else i)) (by rw [List.length_map]) (by rw [List.length_map]; exact Nat.lt_of_le_of_lt l1 (by decide)) hD
      (fun H' s => SqL.of (s _ _ upd_same)) ?_ ?_
    · rintro i n y H1 H2 Kt hn hs ⟨rfl, hy⟩ kt
      have : y = V.int n := by
        rw [List.getElem?_map, hn] at hy
        exact (Option.some.inj hy).symm
      subst this
      exact ⟨rfl, _, rfl, n, rfl, kt _ (.refl _)⟩
    · intro H1 hs hd
      refine ⟨by show 4 ≤ sizeLine; decide, fun b hb => ?_⟩
      have s2 := s1.trans hs
      have hD2 : H D = none := s1.free hD
      refine k b D _ (s2.free hb) hD2 (s2.trans (same_upd hb)) ⟨0, 1234567891, 0, (ns.take 63).map (fun i => if i < 0 then -i else i), upd_same, ?_, by decide, by decide, by decide, by decide, ?_, ?_⟩
      · rw [upd_ne (ne_of_none hd hb), hd, List.map_map]
        rfl
      · rw [List.length_map]
        exact l1
      · intro m hm
        obtain ⟨i, _, rfl⟩ := List.mem_map.mp hm
        exact ab i
abbrev s_law_one : Stmt := top 19
theorem sc_law_one : FnScope ["bag", "things"] ["bag", "things"] (defScope s_law_one) := ⟨rfl, rfl, rfl, by decide +kernel, rfl, by decide +kernel, by decide +kernel⟩
theorem ok_one {f : Addr} {fd : FuncData} (F : Fun K "_law_one" "_law_one" s_law_one f fd) (T : Bl mg)
    (D_law_take : Def P w K mg base 2 "_law_take" ["bag", "many"] spTake) : Fn P w K mg base CX0 3 f fd ["bag", "things"] spOne := by
  refine fn_calm F sc_law_one (fun vs H Q E h => ?_) (fun cdv A outer s H vs Q E hc hr h => ?_)
  · obtain ⟨b, t, xs, rfl, _⟩ := h
    rfl
  · obtain ⟨b, t, xs, rfl, hb, ht, ntb, ne, hl, k⟩ := h
    refine ⟨_, (pss_one (ps_ret (pe_ix ix_list (pv 1) (pe_def D_law_take hc (hr.mono (by decide)) (pa_cons (pv 0) (pa_cons (pe_callB call_len_seq (by rfl) T.lenN (by decide +kernel) (pa_cons (pv 1) pa_nil)) pa_nil))) (fun _ _ => rfl)))), ?_⟩
    have l1 : 0 < xs.length := List.length_pos_iff.mpr ne
    refine ⟨_, rfl, _, rfl, _, rfl, t, _, rfl, .inl (SqL.of ht), b, _, rfl, hb, by omega, by omega, fun i H1 h0 h1 sb hb1 => ?_⟩
    have hi : i.toNat < xs.length := by omega
    have ei : ((i.toNat : Nat) : Int) = i := Int.toNat_of_nonneg h0
    have hx : xs[i.toNat]? = some xs[i.toNat] := List.getElem?_eq_getElem hi
    have ha := atI_nat hx
    rw [ei] at ha
    exact ⟨t, xs, i, _, rfl, rfl, SqL.of (sb _ _ ntb ht), ha, k _ _ (List.getElem_mem hi) sb hb1⟩
abbrev s_law_alike : Stmt := top 20
theorem sc_law_alike : FnScope ["found", "due"] ["found", "due"] (defScope s_law_alike) := ⟨rfl, rfl, rfl, by decide +kernel, rfl, by decide +kernel, by decide +kernel⟩
theorem ok_alike {f : Addr} {fd : FuncData} (F : Fun K "_law_alike" "_law_alike" s_law_alike f fd) (T : Bl mg) (hM : HasMods base) : Fn P w K mg base CX0 2 f fd ["found", "due"] (spAlike K) := by
  refine fn_calm F sc_law_alike (fun vs H Q E h => ?_) (fun cdv A outer s H vs Q E hc hr h => ?_)
  · obtain ⟨v, u, d, rfl, _⟩ := h
    rfl
  · obtain ⟨v, u, d, rfl, hv, hu', hl, hf, k⟩ := h
    have hu64 := hr.units
    have hu110 : (A.deeper (envOfC "_law_alike" (defScope s_law_alike) s.heap.objs.size f cdv)).units + 110 < cLine := by
      have := hr.un
      omega
    refine ⟨_, (pss_one (ps_ret (pe_and (pe_cmpR (op_eqD hu64) (pv 0) (pv 1) (nomark _)) (pe_one (pe_cmpR op_eq (pe_callB (call_repr hc hM hu110) (by rfl) T.reprN (by decide +kernel) (pa_cons (pv 0) pa_nil)) (pe_callB (call_repr hc hM hu110) (by rfl) T.reprN (by decide +kernel) (pa_cons (pv 1) pa_nil)) (nomark _)))))), ?_⟩
    have sh : SeqAt.shaped d.py = true := by
      unfold SeqAt.shaped
      rw [hl, decide_eq_true (Nat.le_trans hf.dp (by decide))]
      rfl
    refine ⟨_, rfl, _, rfl, d.py, d.py, rep_dp d hv hf.pu hl, rep_dp d hu' hf.pu hl, sh, sh, _, rfl, ?_⟩
    rw [SeqAt.eqv_refl _ hl]
    refine iteT ?_
    have hf' : Fine 100 sizeLine d := hf.mono (by decide) (Nat.le_refl _)
    refine ⟨_, rfl, v, d, rfl, hv, hf', _, rfl, u, d, rfl, hu', hf', rfl, ?_⟩
    rw [decide_eq_true rfl]
    exact k
end
end K

set_option Elab.async false
set_option linter.all false
set_option maxRecDepth 100000
set_option maxHeartbeats 8000000
namespace K
open PySem PySem.Spec PyProof.Rows L2 G D L S C Sx Kx Ex Lt
open Fz hiding Fr
open C8 (pss_cut tCut)
open PySem.W (dataLt alike)
section
variable {P : Program} {w : World} {K : PySem.W.Frag} {mg : Str → Option Value} {base : Heap}
theorem gd_all {ds : List Dat} (h : (ds.all gdB) = true) : ∀ d ∈ ds, Gd d := fun d hd => gd_of (List.all_eq_true.mp h d hd)
theorem wd_one {d : Dat} (h : Wd d) : Wd (.lst [d]) ∧ Wd (.tup [d]) := by
  have q : Wd (.lst [d]) := by
    show (decide ([d].length ≤ 100000) && (wd d && true)) = true
    rw [show wd d = true from h]
    rfl
  exact ⟨q, q⟩
theorem gd_zeros : Gd (.lst (List.replicate 900 (.int 0))) := by
  refine ⟨(fine_lst (k := 1) (n := 1) (m := 900) (fun d hd => ?_) (by rw [List.length_replicate]; exact Nat.le_refl _)).mono (by decide) (by decide), by decide +kernel, by decide +kernel⟩
  rw [List.eq_of_mem_replicate hd]
  exact fine_of (by decide +kernel)
abbrev s_law_odd : Stmt := top 24
theorem sc_law_odd : FnScope ["bag", "deep", "k", "odd"] ["bag"] (defScope s_law_odd) := ⟨rfl, rfl, rfl, by decide +kernel, rfl, by decide +kernel, by decide +kernel⟩
theorem ok_odd {f : Addr} {fd : FuncData} (F : Fun K "_law_odd" "_law_odd" s_law_odd f fd) (T : Bl mg)
    (D_law_take : Def P w K mg base 2 "_law_take" ["bag", "many"] spTake) (D_law_one : Def P w K mg base 3 "_law_one" ["bag", "things"] spOne) :
    Fn P w K mg base CX0 4 f fd ["bag"] (spDraw K Gd) := by
  refine fn_calm F sc_law_odd (fun vs H Q E h => ?_) (fun cdv A outer s H vs Q E hc hr h => ?_)
  · obtain ⟨b, F, rfl, _⟩ := h
    rfl
  · obtain ⟨b, F0, rfl, fr, k⟩ := h
    refine ⟨_, (pss_cons (ps_set (i := 1) sc_law_odd.nd rfl (Or.inl rfl) (pe_def D_law_one hc (hr.mono (by decide)) (pa_cons (pv 0) (pa_cons (pe_lit (d := .lst [.lst [], .dct [] [], .tup [], .str "a"]) 9 (by rfl) (by rfl)) pa_nil))))
 (pss_cons (ps_for PassesOwn.never rfl (pi_range1 rfl T.rangeN (pa_cons pe_int pa_nil)) (pg_name (i := 2) sc_law_odd.nd rfl (Or.inl rfl))
  (pss_one (ps_set (i := 1) sc_law_odd.nd rfl (Or.inl rfl) (pe_ifExp (pt_cmpR op_eq (pe_def D_law_take hc (hr.mono (by decide)) (pa_cons (pv 0) (pa_cons pe_int pa_nil))) pe_int (nomark _)) (pe_lst (pa_cons (pv 1) pa_nil)) (pe_tup (pa_cons (pv 1) pa_nil))))))
 (pss_cons (ps_set (i := 3) sc_law_odd.nd rfl (Or.inl rfl) (pe_lit (d := .lst [.non, .bl true, .bl false, .int 0, .int 1, .int (-(1 : Int)), .int 64, .int 65, .int ((10 : Int) ^ (39 : Int).toNat), .int (-(((10 : Int) ^ (39 : Int).toNat) : Int)), .str "", .str "a", .str "A", .str "ninesigns", .str "?", .str "+given", .str "+kept"]) 9 (by rfl) (by rfl)))
 (pss_cons (ps_set (i := 3) sc_law_odd.nd rfl (Or.inl rfl) (pe_op op_cat (pv 3) (pe_lst (pa_mix 9 13 (ds := [.str "a b", .str "a\n", .lst [], .tup [], .dct [] [], .lst [.int 0], .tup [.int 0], .lst [.str "a"], .tup [.str "a"], .lst [.lst [.str "a"]], .tup [.tup [.str "a"]], .dct [.inr "a"] [.int 0], .dct [.inl 0] [.str "a"]]) (by rfl) (by rfl) (pa_cons (pv 1) pa_nil)))))
 (pss_cons (ps_set (i := 3) sc_law_odd.nd rfl (Or.inl rfl) (pe_op op_cat (pv 3) (pe_lit (d := .lst [.tup [.str "a", .int 0, .str "", .int 0, .bl false, .tup []], .tup [.str "a", .str "b"], .tup [.tup [.str "a", .str "b"]], .lst [.tup [.str "a", .str "b"]], .tup [.str "call", .str "a", .str "b", .str ""]]) 9 (by rfl) (by rfl))))
 (pss_one (ps_ret (pe_def D_law_one hc (hr.mono (by decide)) (pa_cons (pv 0) (pa_cons (pe_op op_cat (pv 3) (pe_lst (pa_mix 9 2 (ds := [.tup [.str "hand", .str "a", .str "b", .str "c"], .tup [.str "throw", .str "a"]]) (by rfl) (by rfl) (pa_cons (pe_op op_rep (pe_lit (d := .lst [.int 0]) 9 (by rfl) (by rfl)) pe_int) (pa_cons (pe_lit (d := .lst [.str "a", .str "a"]) 9 (by rfl) (by rfl)) (pa_cons (pe_lit (d := .tup [.str "a", .non]) 9 (by rfl) (by rfl)) pa_nil)))))) pa_nil)))))))))), ?_⟩
    refine ⟨_, rfl, fun v N H1 n1 r1 => ?_⟩
    obtain ⟨F1x, fr1, sF1, sN1⟩ := (Go.refl fr).lit' n1
    obtain ⟨t, xs, rfl, ht, hxs⟩ := Rep.mono sN1 _ r1
    have lx := hxs.length
    have tb : t ≠ b := fr1.ne ht
    refine ⟨b, t, xs, rfl, fr1.bag, fr1.same _ _ ht, tb, ?_, by rw [lx]; decide, fun dv H2 hdv sb2 bg2 => ?_⟩
    · intro z
      rw [z] at lx
      cases lx
    have fr2 := fr1.took sb2 bg2
    obtain ⟨d0, hd0, rd0⟩ := rep_mem hxs hdv
    have g0 : Fine 1 3 d0 ∧ Wd d0 ∧ top1 d0 ≤ 1 := by
      have : ([.lst [], .dct [] [], .tup [], .str "a"] : List Dat).all (fun d => fineB 1 3 d && wd d && decide (top1 d ≤ 1)) = true := by decide +kernel
      have q := List.all_eq_true.mp this d0 hd0
      simp only [Bool.and_eq_true, decide_eq_true_eq] at q
      exact ⟨fine_of q.1.1, q.1.2, q.2⟩
    refine ⟨5, rfl, by decide, by decide, ?_⟩
    refine for_range (n := 5) (fun i σ H' => ∃ (v : V) (o : Option V) (d : Dat) (F' : Hp), σ = [some (.ref b), some v, o, none] ∧ Go b F0 H F' H' ∧ Rep K F' v d ∧ Fine (i + 1) (3 + 5 * i) d ∧ Wd d ∧ top1 d ≤ 1)
      ⟨dv, none, d0, _, rfl, fr2, rd0, g0.1, g0.2.1, g0.2.2⟩ ?_ ?_
    · rintro i σ H3 hi ⟨v, o, d, F3, rfl, fr3, r3, f3, w3, t3⟩
      refine ⟨_, rfl, b, 2, rfl, fr3.bag, by decide, by decide, fun q H4 _ _ sb4 bg4 => ⟨rfl, _, rfl, ?_⟩⟩
      have fr4 := fr3.took sb4 bg4
      refine ite2 (fun e => ?_) (fun e => ?_)
      · refine ⟨_, rfl, by show 1 ≤ sizeLine; decide, fun p hp => ?_⟩
        obtain ⟨F5x, fr5, s5, at5⟩ := fr4.put' (o := .lst [v]) hp
        refine ⟨.ref p, _, .lst [d], _, rfl, fr5, ⟨p, [v], rfl, at5, v, [], rfl, Rep.mono s5 _ r3, rfl⟩, ?_, (wd_one w3).1, Nat.le_refl 1⟩
        have z := fine_lst (m := 1) (ds := [d]) (fun x hx => by rw [List.mem_singleton] at hx; subst hx; exact f3) (Nat.le_refl _)
        exact z.mono (by omega) (by omega)
      · refine ⟨_, rfl, by show 1 ≤ sizeLine; decide, fun p hp => ?_⟩
        obtain ⟨F5x, fr5, s5, at5⟩ := fr4.put' (o := .tup [v]) hp
        refine ⟨.ref p, _, .tup [d], _, rfl, fr5, ⟨p, [v], rfl, at5, v, [], rfl, Rep.mono s5 _ r3, rfl⟩, ?_, (wd_one w3).2, Nat.le_refl 1⟩
        have z := fine_tup (m := 1) (ds := [d]) (fun x hx => by rw [List.mem_singleton] at hx; subst hx; exact f3) (Nat.le_refl _)
        exact z.mono (by omega) (by omega)
    · rintro σ H3 ⟨v, o, d, F3, rfl, fr3, r3, f3, w3, t3⟩
      have gd : Gd d := ⟨f3.mono (by decide) (by decide), w3, Nat.le_trans t3 (by decide)⟩
      -- the first seventeen
      intro o1 N4 H4 n4 r4
      obtain ⟨F4x, fr4, sF4, sN4⟩ := fr3.lit' n4
      obtain ⟨t1, x1, rfl, h1, hx1⟩ := Rep.mono sN4 _ r4
      have l1 := hx1.length
      -- the next ones, deep among them
      refine ⟨_, rfl, fun vs N5 H5 n5 r5 => ?_⟩
      obtain ⟨F5x, fr5, sF5, sN5⟩ := fr4.lit' n5
      have r5' := RepAll.mono sN5 _ r5
      have l5 := r5.length
      refine ⟨_, rfl, by show (vs ++ [v]).length ≤ sizeLine; rw [List.length_append, l5]; exact (by decide : 13 + 1 ≤ sizeLine), fun p6 hp6 => ?_⟩
      obtain ⟨F6x, fr6, sF6, at6⟩ := fr5.put' (o := .lst (vs ++ [v])) hp6
      have h1' := (sF5.trans sF6) _ _ h1
      refine ⟨t1, p6, x1, vs ++ [v], rfl, rfl, fr6.same _ _ h1', upd_same, by rw [List.length_append, l5, l1]; exact (by decide : 17 + (13 + 1) ≤ sizeLine), fun p7 hp7 => ?_⟩
      obtain ⟨F7x, fr7, sF7, at7⟩ := fr6.put' (o := .lst (x1 ++ (vs ++ [v]))) hp7
      -- five more
      refine ⟨_, rfl, fun o8 N8 H8 n8 r8 => ?_⟩
      obtain ⟨F8x, fr8, sF8, sN8⟩ := fr7.lit' n8
      obtain ⟨t8, x8, rfl, h8, hx8⟩ := Rep.mono sN8 _ r8
      have l8 := hx8.length
      have h7' := sF8 p7 _ at7
      refine ⟨p7, t8, _, x8, rfl, rfl, fr8.same _ _ h7', fr8.same _ _ h8, by rw [List.length_append, List.length_append, l5, l1, l8]; exact (by decide : 17 + (13 + 1) + 5 ≤ sizeLine), fun p9 hp9 => ?_⟩
      obtain ⟨F9x, fr9, sF9, at9⟩ := fr8.put' (o := .lst (x1 ++ (vs ++ [v]) ++ x8)) hp9
      -- the last five
      refine ⟨_, rfl, _, rfl, fun ws Na Ha na ra => ?_⟩
      obtain ⟨Fax, fra, sFa, sNa⟩ := fr9.lit' na
      have la := ra.length
      refine fun vb Nb Hb nb rb => ?_
      obtain ⟨Fbx, frb, sFb, sNb⟩ := fra.lit' nb
      obtain ⟨tb', xb, rfl, hb, hxb⟩ := Rep.mono sNb _ rb
      have lb := hxb.length
      refine ⟨tb', 900, xb, rfl, rfl, frb.same _ _ hb, by decide, by decide, by rw [lb]; exact (by decide : 1 * (900 : Int).toNat ≤ sizeLine), fun pc hpc => ?_⟩
      obtain ⟨Fcx, frc, sFc, atc⟩ := frb.put' (o := .lst (List.replicate (900 : Int).toNat xb).flatten) hpc
      refine fun vd Nd Hd nd rd ve Ne He nne re => ?_
      obtain ⟨Fdx, frd, sFd, sNd⟩ := frc.lit' nd
      obtain ⟨Fex, fre, sFe, sNe⟩ := frd.lit' nne
      refine ⟨by show (ws ++ [V.ref pc, vd, ve]).length ≤ sizeLine; rw [List.length_append, la]; exact (by decide : 2 + 3 ≤ sizeLine), fun pf hpf => ?_⟩
      obtain ⟨Ffx, frf, sFf, atf⟩ := fre.put' (o := .lst (ws ++ [V.ref pc, vd, ve])) hpf
      have s9f := (((sFa.trans sFb).trans sFc).trans sFd).trans (sFe.trans sFf)
      have h9' := s9f p9 _ at9
      refine ⟨p9, pf, _, _, rfl, rfl, frf.same _ _ h9', upd_same, ?_, fun pg hpg => ?_⟩
      · rw [List.length_append, List.length_append, List.length_append, l5, l1, l8, List.length_append, la]
        exact (by decide : 17 + (13 + 1) + 5 + (2 + 3) ≤ sizeLine)
      obtain ⟨Fgx, frg, sFg, atg⟩ := frf.put' (o := .lst (x1 ++ (vs ++ [v]) ++ x8 ++ (ws ++ [V.ref pc, vd, ve]))) hpg
      have ng : pg ≠ b := frg.ne atg
      refine ⟨b, pg, _, rfl, frg.bag, upd_same, ng, ?_, ?_, fun vz Hz hvz sbz bgz => ?_⟩
      · intro z
        have := congrArg List.length z
        rw [List.length_append, List.length_append, List.length_append, l1] at this
        simp at this
      · rw [List.length_append, List.length_append, List.length_append, List.length_append, l5, l1, l8, List.length_append, la]
        exact (by decide : 17 + (13 + 1) + 5 + (2 + 3) < 1000000)
      have frz := frg.took sbz bgz
      -- whichever it was
      have sfg := sFf.trans sFg
      have s9g := s9f.trans sFg
      have s7g := (sF8.trans sF9).trans s9g
      have s5g := (sF6.trans sF7).trans s7g
      have all : ∃ ds : List Dat, RepAll K Fgx (x1 ++ (vs ++ [v]) ++ x8 ++ (ws ++ [V.ref pc, vd, ve])) ds ∧ ∀ d ∈ ds, Gd d := by
        have a1 := RepAll.mono (sF5.trans s5g) _ hx1
        have a2 := RepAll.mono s5g _ r5'
        have a3 : Rep K Fgx v d := Rep.mono ((sF4.trans sF5).trans s5g) _ r3
        have a4 := RepAll.mono (sF9.trans s9g) _ hx8
        have sa := (((sFb.trans sFc).trans sFd).trans sFe).trans sfg
        have a5 := RepAll.mono (sNa.trans sa) _ ra
        have a7 := Rep.mono (sNd.trans (sFe.trans sfg)) _ rd
        have a8 := Rep.mono (sNe.trans sfg) _ re
        have a6 : Rep K Fgx (.ref pc) (.lst (List.replicate 900 (.int 0))) := by
          refine ⟨pc, List.replicate 900 (.int 0), rfl, ((sFd.trans sFe).trans sfg) pc _ ?_, ?_⟩
          · rw [atc]
            have : xb = [V.int 0] := by
              obtain ⟨v0, r0, e0, q0, t0⟩ := hxb
              rw [e0, show v0 = V.int 0 from q0, show r0 = [] from t0]
            rw [this]
            have : ∀ n : Nat, (List.replicate n [V.int 0]).flatten = List.replicate n (V.int 0) := fun n => by
              induction n with
              | zero => rfl
              | succ n ih => rw [List.replicate_succ, List.flatten_cons, ih, List.replicate_succ]; rfl
            rw [this]
            rfl
          · have : ∀ n : Nat, RepAll K Fgx (List.replicate n (V.int 0)) (List.replicate n (.int 0)) := fun n => by
              induction n with
              | zero => exact rfl
              | succ n ih => exact ⟨_, _, rfl, rfl, ih⟩
            exact this 900
        refine ⟨_, RepAll.append (RepAll.append (RepAll.append a1 (RepAll.append a2 (.one a3))) a4) (RepAll.append a5 (show RepAll K Fgx [V.ref pc, vd, ve] [.lst (List.replicate 900 (.int 0)), .lst [.str "a", .str "a"], .tup [.str "a", .non]] from ⟨_, _, rfl, a6, _, _, rfl, a7, _, _, rfl, a8, rfl⟩)), ?_⟩
        intro x hx
        rcases List.mem_append.mp hx with hx | hx
        · rcases List.mem_append.mp hx with hx | hx
          · rcases List.mem_append.mp hx with hx | hx
            · exact gd_all (by decide +kernel) x hx
            · rcases List.mem_append.mp hx with hx | hx
              · exact gd_all (by decide +kernel) x hx
              · rw [List.mem_singleton] at hx
                subst hx
                exact gd
          · exact gd_all (by decide +kernel) x hx
        · rcases List.mem_append.mp hx with hx | hx
          · exact gd_all (by decide +kernel) x hx
          · rcases List.mem_cons.mp hx with rfl | hx
            · exact gd_zeros
            · exact gd_all (by decide +kernel) x hx
      obtain ⟨ds, rds, gds⟩ := all
      obtain ⟨dz, hdz, rdz⟩ := rep_mem rds hvz
      exact k vz dz _ Hz frz rdz (gds dz hdz)
end
end K

set_option Elab.async false
set_option linter.all false
set_option maxRecDepth 100000
set_option maxHeartbeats 8000000
namespace K
open PySem PySem.Spec PyProof.Rows L2 G D L S C Sx Kx Ex Lt
open Fz hiding Fr
open C8 (pss_cut tCut)
open PySem.W (dataLt alike AllAlike Sortable)
/-- an item of a drawn sequence, also if it is made a list -/
def itemB (x : Dat) : Bool := fineB 5 400 x && wd x && (match x with
  | .tup es => fineB 5 400 (.lst es) && wd (.lst es)
  | _ => true)
structure Item (x : Dat) : Prop where
  fi : Fine 5 400 x
  wd : Wd x
  ls : ∀ es, x = .tup es → Fine 5 400 (.lst es) ∧ Wd (.lst es)
theorem item_of {x : Dat} (h : itemB x = true) : Item x := by
  unfold itemB at h
  simp only [Bool.and_eq_true] at h
  refine ⟨fine_of h.1.1, h.1.2, fun es e => ?_⟩
  subst e
  have z := h.2
  simp only [Bool.and_eq_true] at z
  exact ⟨fine_of z.1, z.2⟩
/-- a drawn sequence -/
structure Gs (d : Dat) : Prop where
  ex : ∃ ds, (d = .lst ds ∨ d = .tup ds) ∧ ds.length ≤ 8 ∧ ∀ x ∈ ds, Item x
theorem wdAll_of : ∀ {ds : List Dat}, (∀ d ∈ ds, Wd d) → wdAll ds = true
  | [], _ => rfl
  | d :: ds, h => by
    show (wd d && wdAll ds) = true
    rw [show wd d = true from h d List.mem_cons_self, wdAll_of fun x hx => h x (List.mem_cons_of_mem _ hx)]
    rfl
theorem wd_of {ds : List Dat} (hl : ds.length ≤ 100000) (h : ∀ d ∈ ds, Wd d) : Wd (.lst ds) ∧ Wd (.tup ds) := by
  have q : (decide (ds.length ≤ 100000) && wdAll ds) = true := by
    rw [decide_eq_true hl, wdAll_of h]
    rfl
  exact ⟨q, q⟩
theorem Gs.gd {d : Dat} (g : Gs d) : Gd d := by
  obtain ⟨ds, e, hl, hi⟩ := g.ex
  have wds := wd_of (ds := ds) (Nat.le_trans hl (by decide)) fun x hx => (hi x hx).wd
  have fl := fine_lst (m := 8) (fun x hx => (hi x hx).fi) hl
  have ft := fine_tup (m := 8) (fun x hx => (hi x hx).fi) hl
  rcases e with rfl | rfl
  · exact ⟨fl.mono (by decide) (by decide), wds.1, Nat.le_trans hl (by decide)⟩
  · exact ⟨ft.mono (by decide) (by decide), wds.2, Nat.le_trans hl (by decide)⟩
theorem gs_tup {ds : List Dat} (hl : ds.length ≤ 8) (h : ∀ x ∈ ds, Item x) : Gs (.tup ds) := ⟨ds, .inr rfl, hl, h⟩
theorem gs_lst {ds : List Dat} (hl : ds.length ≤ 8) (h : ∀ x ∈ ds, Item x) : Gs (.lst ds) := ⟨ds, .inl rfl, hl, h⟩
/-- a drawn word -/
structure Gw (d : Dat) : Prop where
  st : ∃ x, d = .str x
  fi : Fine 1 20 d
  wd : Wd d
theorem Gw.item {d : Dat} (g : Gw d) : Item d := by
  refine ⟨g.fi.mono (by decide) (by decide), g.wd, fun es e => ?_⟩
  obtain ⟨x, rfl⟩ := g.st
  cases e
theorem Gw.pair {a b : Dat} (ha : Gw a) (hb : Gw b) : Item (.tup [a, b]) := by
  have all : ∀ d ∈ [a, b], Fine 1 20 d := by
    intro d hd
    rcases List.mem_cons.mp hd with rfl | hd
    · exact ha.fi
    · rw [List.mem_singleton] at hd
      subst hd
      exact hb.fi
  have allw : ∀ d ∈ [a, b], Wd d := by
    intro d hd
    rcases List.mem_cons.mp hd with rfl | hd
    · exact ha.wd
    · rw [List.mem_singleton] at hd
      subst hd
      exact hb.wd
  have ft := fine_tup (m := 2) all (Nat.le_refl _)
  have fl := fine_lst (m := 2) all (Nat.le_refl _)
  have w := wd_of (ds := [a, b]) (show 2 ≤ 100000 by decide) allw
  refine ⟨ft.mono (by decide) (by decide), w.2, fun es e => ?_⟩
  cases e
  exact ⟨fl.mono (by decide) (by decide), w.1⟩
def wordB (d : Dat) : Bool := fineB 1 20 d && wd d && d.isStr
theorem word_of {d : Dat} (h : wordB d = true) : Gw d := by
  unfold wordB at h
  simp only [Bool.and_eq_true] at h
  refine ⟨?_, fine_of h.1.1, h.1.2⟩
  cases d with
  | str x => exact ⟨x, rfl⟩
  | _ => cases h.2
section
variable {P : Program} {w : World} {K : PySem.W.Frag} {mg : Str → Option Value} {base : Heap}
abbrev s_law_some_name : Stmt := top 27
theorem sc_law_some_name : FnScope ["bag", "some"] ["bag"] (defScope s_law_some_name) := ⟨rfl, rfl, rfl, by decide +kernel, rfl, by decide +kernel, by decide +kernel⟩
theorem ok_some_name {f : Addr} {fd : FuncData} (F : Fun K "_law_some_name" "_law_some_name" s_law_some_name f fd) (T : Bl mg)
    (D_law_one : Def P w K mg base 3 "_law_one" ["bag", "things"] spOne) : Fn P w K mg base CX0 4 f fd ["bag"] (spDraw K Gw) := by
  refine fn_calm F sc_law_some_name (fun vs H Q E h => ?_) (fun cdv A outer s H vs Q E hc hr h => ?_)
  · obtain ⟨b, F, rfl, _⟩ := h
    rfl
  · obtain ⟨b, F0, rfl, fr, k⟩ := h
    refine ⟨_, (pss_cons (ps_set (i := 1) sc_law_some_name.nd rfl (Or.inl rfl) (pe_lit (d := .lst [.str "a", .str "b", .str "ab", .str "ann", .str "zzzzzzzz", .str "cup", .str "call", .str "", .str "A", .str "aB", .str "Ab", .str "ninelette", .str "a1", .str "a b", .str "?"]) 9 (by rfl) (by rfl)))
 (pss_one (ps_ret (pe_def D_law_one hc (hr.mono (by decide)) (pa_cons (pv 0) (pa_cons (pv 1) pa_nil)))))), ?_⟩
    intro o N H1 n1 r1
    obtain ⟨F1, g1, s1, sN1⟩ := (Go.refl fr).lit' n1
    obtain ⟨t, xs, rfl, ht, hxs⟩ := Rep.mono sN1 _ r1
    have lx := hxs.length
    refine ⟨_, rfl, _, rfl, b, t, xs, rfl, g1.bag, g1.same _ _ ht, g1.ne ht, ?_, by rw [lx]; decide, fun v H2 hv sb bt => ?_⟩
    · intro z
      rw [z] at lx
      cases lx
    obtain ⟨d, hd, rd⟩ := rep_mem hxs hv
    exact k v d F1 H2 (g1.took sb bt) rd (word_of (List.all_eq_true.mp (by decide +kernel) d hd))
/-- words in order: pairs of texts can be sorted -/
theorem ord_pairs {ds : List Dat} (h : ∀ d ∈ ds, ∃ x y, d = .tup [.str x, .str y]) : Ord ds := by
  refine ⟨fun d hd => ?_, fun d hd e he => ?_, .inl fun d hd => ?_, fun d hd => ?_⟩
  · obtain ⟨x, y, rfl⟩ := h d hd
    rfl
  · obtain ⟨d', hd', rfl⟩ := List.mem_map.mp hd
    obtain ⟨e', he', rfl⟩ := List.mem_map.mp he
    obtain ⟨x, y, rfl⟩ := h d' hd'
    obtain ⟨x', y', rfl⟩ := h e' he'
    simp [Dat.py, pyAll, alike, PySem.W.alikeAll]
  · obtain ⟨d', hd', rfl⟩ := List.mem_map.mp hd
    obtain ⟨x, y, rfl⟩ := h d' hd'
    exact ⟨.str x, [.str y], by simp [Dat.py, pyAll]⟩
  · obtain ⟨x, y, rfl⟩ := h d hd
    simp [Dat.py, pyAll, PyData.depth, PyData.depthAll]
theorem sort_mem {ds : List Dat} {x : Dat} : x ∈ sortD ds ↔ x ∈ ds := (List.mergeSort_perm ds _).mem_iff
theorem sort_len (ds : List Dat) : (sortD ds).length = ds.length := (List.mergeSort_perm ds _).length_eq
abbrev s_law_drawn_thing : Stmt := top 28
theorem sc_law_drawn_thing : FnScope ["bag", "way", "some", "k", "rows", "word"] ["bag"] (defScope s_law_drawn_thing) := ⟨rfl, rfl, rfl, by decide +kernel, rfl, by decide +kernel, by decide +kernel⟩
theorem ok_drawn_thing {f : Addr} {fd : FuncData} (F : Fun K "_law_drawn_thing" "_law_drawn_thing" s_law_drawn_thing f fd) (T : Bl mg)
    (D_law_take : Def P w K mg base 2 "_law_take" ["bag", "many"] spTake) (D_law_one : Def P w K mg base 3 "_law_one" ["bag", "things"] spOne)
    (D_law_some_name : Def P w K mg base 4 "_law_some_name" ["bag"] (spDraw K Gw)) : Fn P w K mg base CX0 5 f fd ["bag"] (spDraw K Gs) := by
  refine fn_calm F sc_law_drawn_thing (fun vs H Q E h => ?_) (fun cdv A outer s H vs Q E hc hr h => ?_)
  · obtain ⟨b, F, rfl, _⟩ := h
    rfl
  · obtain ⟨b, F0, rfl, fr, k⟩ := h
    have hu64 := hr.units
    refine ⟨_, (pss_cons (ps_set (i := 1) sc_law_drawn_thing.nd rfl (Or.inl rfl) (pe_def D_law_take hc (hr.mono (by decide)) (pa_cons (pv 0) (pa_cons pe_int pa_nil))))
 (pss_cons (ps_setLc (i := 2) (own := [("k", 3)]) (g := gName 3) (tt := tYes) rfl sc_law_drawn_thing.nd rfl rfl (sw_true rfl rfl rfl (by decide +kernel)) (pi_range1 rfl T.rangeN (pa_cons (pe_def D_law_take hc (hr.mono (by decide)) (pa_cons (pv 0) (pa_cons pe_int pa_nil))) pa_nil)) (blkOk_by (N := ["bag", "way", "some", "k", "rows", "word"]) (sc := defScope s_law_drawn_thing) (by decide +kernel)) (fun _ _ _ _ _ => (pg_name (i := 3) sc_law_drawn_thing.nd rfl (Or.inl rfl))) (fun _ _ _ _ _ => pts_nil) (fun _ _ _ _ _ => (pe_def D_law_some_name hc (hr.mono (by decide)) (pa_cons (pv 0) pa_nil))))
 (pss_cons (ps_if (pt_cmpR op_lt (pv 1) pe_int (nomark _))
  (pss_one (ps_ret (pe_ifExp (pt_cmpR op_eq (pv 1) pe_int (nomark _)) (pv 2) (pe_callTy call_tuple_of (by rfl) T.tupleN (by decide +kernel) (pa_cons (pv 2) pa_nil)))))
  pss_nil)
 (pss_cons (ps_if (pt_cmpR op_lt (pv 1) pe_int (nomark _))
  (pss_cons (ps_setLc (i := 4) (own := [("k", 3)]) (g := gName 3) (tt := tYes) rfl sc_law_drawn_thing.nd rfl rfl (sw_true rfl rfl rfl (by decide +kernel)) (pi_range1 rfl T.rangeN (pa_cons (pe_def D_law_take hc (hr.mono (by decide)) (pa_cons (pv 0) (pa_cons pe_int pa_nil))) pa_nil)) (blkOk_by (N := ["bag", "way", "some", "k", "rows", "word"]) (sc := defScope s_law_drawn_thing) (by decide +kernel)) (fun _ _ _ _ _ => (pg_name (i := 3) sc_law_drawn_thing.nd rfl (Or.inl rfl))) (fun _ _ _ _ _ => pts_nil) (fun _ _ _ _ _ => (pe_tup (pa_cons (pe_def D_law_some_name hc (hr.mono (by decide)) (pa_cons (pv 0) pa_nil)) (pa_cons (pe_def D_law_some_name hc (hr.mono (by decide)) (pa_cons (pv 0) pa_nil)) pa_nil)))))
 (pss_one (ps_ret (pe_callTy call_tuple_of (by rfl) T.tupleN (by decide +kernel) (pa_cons (pe_ifExp (pt_cmpR op_eq (pv 1) pe_int (nomark _)) (pe_callB (call_sorted hu64) (by rfl) T.sortedN (by decide +kernel) (pa_cons (pv 4) pa_nil)) (pv 4)) pa_nil)))))
  pss_nil)
 (pss_cons (ps_set (i := 5) sc_law_drawn_thing.nd rfl (Or.inl rfl) (pe_def D_law_one hc (hr.mono (by decide)) (pa_cons (pv 0) (pa_cons (pe_lit (d := .lst [.str "call", .str "hand", .str "throw", .str "step", .str "CALL", .int 0]) 9 (by rfl) (by rfl)) pa_nil))))
 (pss_one (ps_ret (pe_callTy call_tuple_of (by rfl) T.tupleN (by decide +kernel) (pa_cons (pe_op op_cat (pe_lst (pa_cons (pv 5) pa_nil)) (pe_slice sl_list (pe_op op_cat (pv 2) (pe_lit (d := .lst [.str "ann", .str "bob", .str "cup"]) 9 (by rfl) (by rfl))) po_none (po_some (pe_def D_law_one hc (hr.mono (by decide)) (pa_cons (pv 0) (pa_cons (pe_lit (d := .lst [.int 1, .int 3, .int 3, .int 3, .int 2, .int 4]) 9 (by rfl) (by rfl)) pa_nil)))))) pa_nil))))))))), ?_⟩
    refine ⟨_, rfl, b, 7, rfl, fr.bag, by decide, by decide, fun way H1 w0 w7 sb1 bt1 => ?_⟩
    have g1 := (Go.refl fr).took sb1 bt1
    -- some
    refine ⟨_, rfl, b, 5, rfl, g1.bag, by decide, by decide, fun n H2 n0 n5 sb2 bt2 => ⟨n, rfl, by omega, by omega, fun D hD => ?_⟩⟩
    have g2 := g1.took sb2 bt2
    refine lc_draw (K := K) (F := F0) (b := b) Gw (Nat.lt_of_le_of_lt (by omega : n.toNat ≤ 5) (by decide)) hD g2.fr ?_ ?_
    · intro i F' H' Kt f' kt
      exact ⟨rfl, _, rfl, b, F', rfl, f', kt⟩
    intro F3 H3 xs ds go3 hD3 fD3 nDb hxs hl hg
    have g3 := g2.trans go3
    have lx := hxs.length
    have ln : ds.length ≤ 4 := by omega
    refine ⟨_, rfl, _, _, rfl, rfl, _, rfl, ?_⟩
    refine ite2 (fun e2 => ?_) (fun e2 => ?_)
    · refine ⟨_, rfl, rfl, _, rfl, ?_⟩
      refine ite2 (fun e0 => ?_) (fun e0 => ?_)
      · -- the list itself: frozen now
        refine ⟨_, rfl, k (.ref D) (.lst ds) (upd F3 D (.lst xs)) H3 ?_ ⟨D, xs, rfl, upd_same, RepAll.mono (same_upd fD3) _ hxs⟩ (gs_lst (by omega) fun x hx => (hg x hx).item)⟩
        refine ⟨⟨fun y o e => ?_, ?_, ?_⟩, g3.up.trans (same_upd fD3), g3.but, fun y o e => ?_⟩
        · by_cases q : y = D
          · subst q
            rw [upd_same] at e
            rw [hD3, ← e]
          · rw [upd_ne q] at e
            exact g3.same _ _ e
        · rw [upd_ne nDb.symm]
          exact g3.out
        · obtain ⟨l, o, q1, q2⟩ := g3.fr.cell
          exact ⟨l, o, q1, same_upd fD3 _ _ q2⟩
        · by_cases q : y = D
          · subst q
            refine .inr ?_
            cases hH : H y with
            | none => rfl
            | some u =>
              have := g2.but y u nDb hH
              rw [hD] at this
              cases this
          · rw [upd_ne q] at e
            exact g3.new _ _ e
      · refine ⟨_, rfl, D, xs, rfl, .inl ⟨SqL.of hD3, fun p hp => ?_⟩⟩
        obtain ⟨F4, g4, s4, at4⟩ := g3.put' (o := .tup xs) hp
        exact k (.ref p) (.tup ds) F4 _ g4 ⟨p, xs, rfl, at4, RepAll.mono s4 _ hxs⟩ (gs_tup (by omega) fun x hx => (hg x hx).item)
    · refine ⟨_, rfl, _, _, rfl, rfl, _, rfl, ?_⟩
      refine ite2 (fun e4 => ?_) (fun e4 => ?_)
      · -- rows
        refine ⟨_, rfl, b, 4, rfl, g3.bag, by decide, by decide, fun m H4 m0 m4 sb4 bt4 => ⟨m, rfl, by omega, by omega, fun D2 hD2 => ?_⟩⟩
        have g4 := g3.took sb4 bt4
        refine lc_draw (K := K) (F := F3) (b := b) (fun d => ∃ x y, d = .tup [.str x, .str y] ∧ Item d) (Nat.lt_of_le_of_lt (by omega : m.toNat ≤ 4) (by decide)) hD2 g4.fr ?_ ?_
        · intro i F' H' Kt f' kt
          refine ⟨rfl, _, rfl, b, F', rfl, f', fun v1 d1 F5 H5 go5 r1 gw1 => ⟨_, rfl, b, F5, rfl, go5.fr, fun v2 d2 F6 H6 go6 r2 gw2 => ⟨by show 2 ≤ sizeLine; decide, fun p hp => ?_⟩⟩⟩
          obtain ⟨F7, g7, s7, at7⟩ := (go5.trans go6).put' (o := .tup [v1, v2]) hp
          obtain ⟨x1, rfl⟩ := gw1.st
          obtain ⟨x2, rfl⟩ := gw2.st
          exact kt (.ref p) (.tup [.str x1, .str x2]) F7 _ g7 ⟨p, _, rfl, at7, _, _, rfl, Rep.mono (go6.up.trans s7) (.str x1) r1, _, _, rfl, Rep.mono s7 (.str x2) r2, rfl⟩ ⟨x1, x2, rfl, gw1.pair gw2⟩
        intro F5 H5 ys es go5 hD5 fD5 nDb5 hys hl5 hg5
        have g5 := g4.trans go5
        have ly := hys.length
        have fin : ∀ (F6 H6 : Hp) (a : Addr) (zs : List V) (fs : List Dat), Go b F0 H F6 H6 → H6 a = some (.lst zs) → RepAll K F6 zs fs → fs.length = es.length → (∀ x ∈ fs, x ∈ es) →
            ∀ p, H6 p = none → Q (.ref p) (upd H6 p (.tup zs)) := by
          intro F6 H6 a zs fs g6 _ hz lz sub p hp
          obtain ⟨F7, g7, s7, at7⟩ := g6.put' (o := .tup zs) hp
          refine k (.ref p) (.tup fs) F7 _ g7 ⟨p, zs, rfl, at7, RepAll.mono s7 _ hz⟩ (gs_tup (by omega) fun x hx => ?_)
          obtain ⟨_, _, _, q⟩ := hg5 x (sub x hx)
          exact q
        refine ⟨_, rfl, rfl, _, rfl, ?_⟩
        refine ite2 (fun e5 => ?_) (fun e5 => ?_)
        · refine ⟨_, rfl, D2, ys, es, F5, rfl, hD5, g5.same, hys, ord_pairs fun d hd => ?_, fun p zs hp hz lz => ?_⟩
          · obtain ⟨x, y, q, _⟩ := hg5 d hd
            exact ⟨x, y, q⟩
          · have s6 := same_upd (o := .lst zs) hp
            exact ⟨p, zs, rfl, .inl ⟨SqL.of upd_same, fun q hq => fin F5 _ p zs (sortD es) (g5.grow s6) upd_same hz (sort_len es) (fun x hx => sort_mem.mp hx) q hq⟩⟩
        · exact ⟨_, rfl, D2, ys, rfl, .inl ⟨SqL.of hD5, fun q hq => fin F5 H5 D2 ys es g5 hD5 hys rfl (fun x hx => hx) q hq⟩⟩
      · -- word
        refine ⟨_, rfl, fun v4 N4 H4 n4 r4 => ?_⟩
        obtain ⟨F4, g4, s4, t4⟩ := (Go.refl g3.fr).lit' n4
        obtain ⟨a4, x4, rfl, h4, hx4⟩ := Rep.mono t4 _ r4
        have l4 := hx4.length
        refine ⟨b, a4, x4, rfl, g4.bag, g4.same _ _ h4, g4.ne h4, fun z => (by rw [z] at l4; cases l4), by rw [l4]; decide, fun wv H5 hw sb5 bt5 => ?_⟩
        obtain ⟨dw, hdw, rdw⟩ := rep_mem hx4 hw
        have g5 := g4.took sb5 bt5
        have iw : Item dw := item_of (List.all_eq_true.mp (by decide +kernel) dw hdw)
        refine ⟨_, rfl, by show 1 ≤ sizeLine; decide, fun p6 hp6 => ?_⟩
        obtain ⟨F6, g6, s6, at6⟩ := g5.put' (o := .lst [wv]) hp6
        refine ⟨_, rfl, fun v7 N7 H7 n7 r7 => ?_⟩
        obtain ⟨F7, g7, s7, t7⟩ := g6.lit' n7
        obtain ⟨a7, x7, rfl, h7, hx7⟩ := Rep.mono t7 _ r7
        have l7 := hx7.length
        have hD7 := g7.but _ _ nDb hD3
        refine ⟨D, a7, xs, x7, rfl, rfl, hD7, g7.same _ _ h7, by rw [lx, l7]; exact Nat.le_trans (Nat.add_le_add_right ln _) (by decide), fun p8 hp8 => ?_⟩
        obtain ⟨F8, g8, s8, at8⟩ := g7.put' (o := .lst (xs ++ x7)) hp8
        refine ⟨_, rfl, fun v9 N9 H9 n9 r9 => ?_⟩
        obtain ⟨F9, g9, s9, t9⟩ := g8.lit' n9
        obtain ⟨a9, x9, rfl, h9, hx9⟩ := Rep.mono t9 _ r9
        have l9 := hx9.length
        refine ⟨b, a9, x9, rfl, g9.bag, g9.same _ _ h9, g9.ne h9, fun z => (by rw [z] at l9; cases l9), by rw [l9]; decide, fun iv Ha hi sba bta => ?_⟩
        obtain ⟨di, hdi, rdi⟩ := rep_mem hx9 hi
        have ga := g9.took sba bta
        have ei : ∃ i, di = .int i := by
          simp only [List.mem_cons, List.not_mem_nil, or_false] at hdi
          rcases hdi with rfl | rfl | rfl | rfl | rfl | rfl <;> exact ⟨_, rfl⟩
        obtain ⟨i, rfl⟩ := ei
        obtain rfl : iv = .int i := rdi
        refine ⟨i, rfl, p8, xs ++ x7, rfl, SqL.of (ga.same _ _ (s9 _ _ at8)), fun pb hpb => ?_⟩
        obtain ⟨Fb, gb, sb, atb⟩ := ga.put' (o := .lst (cutV (xs ++ x7) none (some i))) hpb
        have cl := cutV_length (xs ++ x7) none (some i)
        rw [List.length_append, lx, l7] at cl
        have cl' : (cutV (xs ++ x7) none (some i)).length ≤ 7 := Nat.le_trans cl (Nat.add_le_add_right ln 3)
        refine ⟨p6, pb, [wv], _, rfl, rfl, gb.same _ _ (sb _ _ (s9 _ _ (s8 _ _ (s7 _ _ at6)))), upd_same, Nat.le_trans (Nat.add_le_add_left cl' 1) (by decide), fun pc hpc => ?_⟩
        obtain ⟨Fc, gc, sc, atc⟩ := gb.put' (o := .lst ([wv] ++ cutV (xs ++ x7) none (some i))) hpc
        refine ⟨pc, _, rfl, .inl ⟨SqL.of upd_same, fun pd hpd => ?_⟩⟩
        obtain ⟨Fd, gd, sd, atd⟩ := gc.put' (o := .tup ([wv] ++ cutV (xs ++ x7) none (some i))) hpd
        have up : Same F7 Fd := (((s8.trans s9).trans sb).trans sc).trans sd
        have rx : RepAll K Fd (xs ++ x7) (ds ++ [.str "ann", .str "bob", .str "cup"]) := RepAll.append (RepAll.mono gd.up _ hxs) (RepAll.mono up _ hx7)
        have rc : RepAll K Fd (cutV (xs ++ x7) none (some i)) _ := RepAll.take _ (RepAll.drop _ rx)
        have rw1 : Rep K Fd wv dw := Rep.mono ((s6.trans s7).trans up) _ rdw
        refine k (.ref pd) (.tup (dw :: _)) Fd _ (g3.trans gd) ⟨pd, _, rfl, atd, wv, _, rfl, rw1, rc⟩ (gs_tup ?_ fun x hx => ?_)
        · have q := rc.length
          rw [List.length_cons, ← q]
          omega
        · rcases List.mem_cons.mp hx with rfl | hx
          · exact iw
          · have hx := List.mem_of_mem_drop (List.mem_of_mem_take hx)
            rcases List.mem_append.mp hx with hx | hx
            · exact (hg x hx).item
            · exact item_of (List.all_eq_true.mp (by decide +kernel) x hx)
end
end K

set_option Elab.async false
set_option linter.all false
set_option maxRecDepth 100000
set_option maxHeartbeats 8000000
namespace K
open PySem PySem.Spec PyProof.Rows L2 G D L S C Sx Kx Ex Lt
open Fz hiding Fr
open C8 (pss_cut tCut)
open PySem.W (dataLt alike AllAlike Sortable)
def nearB (d : Dat) : Bool := match d with
  | .tup es => decide (es.length ≤ 8) && es.all itemB
  | _ => false
theorem gs_near {d : Dat} (h : nearB d = true) : Gs d := by
  unfold nearB at h
  split at h
  · simp only [Bool.and_eq_true, decide_eq_true_eq] at h
    exact gs_tup h.1 fun x hx => item_of (List.all_eq_true.mp h.2 x hx)
  · cases h
theorem gs_nears {ds : List Dat} (h : ds.all nearB = true) : ∀ d ∈ ds, Gs d := fun d hd => gs_near (List.all_eq_true.mp h d hd)
section
variable {P : Program} {w : World} {K : PySem.W.Frag} {mg : Str → Option Value} {base : Heap}
abbrev s_law_near_one : Stmt := top 29
theorem sc_law_near_one : FnScope ["bag", "rows", "some"] ["bag"] (defScope s_law_near_one) := ⟨rfl, rfl, rfl, by decide +kernel, rfl, by decide +kernel, by decide +kernel⟩
theorem ok_near_one {f : Addr} {fd : FuncData} (F : Fun K "_law_near_one" "_law_near_one" s_law_near_one f fd) (T : Bl mg)
    (D_law_take : Def P w K mg base 2 "_law_take" ["bag", "many"] spTake) (D_law_one : Def P w K mg base 3 "_law_one" ["bag", "things"] spOne) :
    Fn P w K mg base CX0 4 f fd ["bag"] (spDraw K Gs) := by
  refine fn_calm F sc_law_near_one (fun vs H Q E h => ?_) (fun cdv A outer s H vs Q E hc hr h => ?_)
  · obtain ⟨b, F, rfl, _⟩ := h
    rfl
  · obtain ⟨b, F0, rfl, fr, k⟩ := h
    have hu64 := hr.units
    refine ⟨_, (pss_cons (ps_set (i := 1) sc_law_near_one.nd rfl (Or.inl rfl) (pe_slice sl_list (pe_callB (call_sorted hu64) (by rfl) T.sortedN (by decide +kernel) (pa_cons (pe_lit (d := .lst [.tup [.str "a", .str "b"], .tup [.str "a", .str "cup"], .tup [.str "b", .str "a"], .tup [.str "cup", .str "z"], .tup [.str "x", .str "x"]]) 9 (by rfl) (by rfl)) pa_nil)) po_none (po_some (pe_op op_add pe_int (pe_def D_law_take hc (hr.mono (by decide)) (pa_cons (pv 0) (pa_cons pe_int pa_nil)))))))
 (pss_cons (ps_set (i := 2) sc_law_near_one.nd rfl (Or.inl rfl) (pe_lit (d := .lst [.tup [.str "hand", .str "ann", .str "bob", .str "ann"], .tup [.str "hand", .str "ann", .str "bob", .str "bob"], .tup [.str "hand", .str "a", .str "b", .str ""]]) 9 (by rfl) (by rfl)))
 (pss_cons (ps_set (i := 2) sc_law_near_one.nd rfl (Or.inl rfl) (pe_op op_cat (pv 2) (pe_lst (pa_mix 9 4 (ds := [.tup [.str "hand", .str "a", .str "a", .str "b"], .tup [.tup [.str "a", .str "a"]], .tup [.tup [.str "a", .str ""]], .tup [.str "a", .str "b"]]) (by rfl) (by rfl) (pa_cons (pe_callTy call_tuple_of (by rfl) T.tupleN (by decide +kernel) (pa_cons (pv 1) pa_nil)) (pa_cons (pe_callTy call_tuple_of (by rfl) T.tupleN (by decide +kernel) (pa_cons (pv 1) pa_nil)) pa_nil))))))
 (pss_cons (ps_set (i := 2) sc_law_near_one.nd rfl (Or.inl rfl) (pe_op op_cat (pv 2) (pe_lit (d := .lst [.tup [.str "call", .str "a", .str "b", .non], .tup [.str "call", .str "a", .str "b", .str ""], .tup [.str "call", .str "a", .str "a", .str "a"], .tup [.str "call", .str "a", .str "", .str "b"]]) 9 (by rfl) (by rfl))))
 (pss_cons (ps_set (i := 2) sc_law_near_one.nd rfl (Or.inl rfl) (pe_op op_cat (pv 2) (pe_lit (d := .lst [.tup [.str "step", .str "a"], .tup [.str "step"], .tup [.str "throw", .str "a", .str "b"], .tup [.str "throw", .str ""], .tup [.lst [.str "a", .str "b"]]]) 9 (by rfl) (by rfl))))
 (pss_cons (ps_set (i := 2) sc_law_near_one.nd rfl (Or.inl rfl) (pe_op op_cat (pv 2) (pe_lit (d := .lst [.tup [.tup [.str "a", .lst [.str "b"]]], .tup [.tup [.str "a", .non], .tup [.str "a", .str "b"]], .tup [.tup [.lst [.str "a"], .str "b"]], .tup [.str "call", .str "a", .lst [.str "b"], .str ""]]) 9 (by rfl) (by rfl))))
 (pss_one (ps_ret (pe_def D_law_one hc (hr.mono (by decide)) (pa_cons (pv 0) (pa_cons (pe_op op_cat (pv 2) (pe_lit (d := .lst [.tup [.tup [.str "a", .str "b"], .lst [.str "a", .str "c"]], .tup [.tup [.str "a", .str "b"], .tup [.str "a", .str "b"]]]) 9 (by rfl) (by rfl))) pa_nil))))))))))), ?_⟩
    -- rows
    intro v1 N1 H1 n1 r1
    obtain ⟨F1, g1, s1, t1⟩ := (Go.refl fr).lit' n1
    obtain ⟨a1, x1, rfl, h1, hx1⟩ := Rep.mono t1 _ r1
    have l1 := hx1.length
    refine ⟨a1, x1, _, F1, rfl, g1.same _ _ h1, g1.same, hx1, ord_pairs (fun d hd => ?_), fun p2 ys hp2 ry ly => ?_⟩
    · simp only [List.mem_cons, List.not_mem_nil, or_false] at hd
      rcases hd with rfl | rfl | rfl | rfl | rfl <;> exact ⟨_, _, rfl⟩
    obtain ⟨F2, g2, s2, at2⟩ := g1.put' (o := .lst ys) hp2
    refine ⟨_, rfl, b, 5, rfl, g2.bag, by decide, by decide, fun m H3 m0 m5 sb3 bt3 => ?_⟩
    have g3 := g2.took sb3 bt3
    refine ⟨_, _, rfl, rfl, _, rfl, p2, ys, rfl, SqL.of (g3.same _ _ at2), fun p4 hp4 => ?_⟩
    obtain ⟨F4, g4, s4, at4⟩ := g3.put' (o := .lst (cutV ys none (some (1 + m)))) hp4
    have lr := cutV_length ys none (some (1 + m))
    rw [ly, l1] at lr
    have lr5 : (cutV ys none (some (1 + m))).length ≤ 5 := lr
    obtain ⟨rs, rr, irs⟩ : ∃ rs, RepAll K F4 (cutV ys none (some (1 + m))) rs ∧ ∀ x ∈ rs, Item x := by
      refine ⟨_, RepAll.take _ (RepAll.drop _ (RepAll.mono (s2.trans s4) _ ry)), fun x hx => ?_⟩
      exact item_of (List.all_eq_true.mp (by decide +kernel) x (sort_mem.mp (List.mem_of_mem_drop (List.mem_of_mem_take hx))))
    have lrs := rr.length
    -- some
    intro v5 N5 H5 n5 r5
    obtain ⟨F5, g5, s5, t5⟩ := g4.lit' n5
    obtain ⟨a5, x5, rfl, h5, hx5⟩ := Rep.mono t5 _ r5
    have l5 := hx5.length
    refine ⟨_, rfl, fun vs N6 H6 n6 r6 => ?_⟩
    obtain ⟨F6, g6, s6, t6⟩ := g5.lit' n6
    have hx6 := RepAll.mono t6 _ r6
    have l6 := hx6.length
    refine ⟨_, rfl, p4, _, rfl, .inl ⟨SqL.of (g6.same _ _ (s6 _ _ (s5 _ _ at4))), fun p7 hp7 => ?_⟩⟩
    obtain ⟨F7, g7, s7, at7⟩ := g6.put' (o := .tup (cutV ys none (some (1 + m)))) hp7
    refine ⟨_, rfl, p4, _, rfl, .inl ⟨SqL.of (g7.same _ _ (s7 _ _ (s6 _ _ (s5 _ _ at4)))), fun p8 hp8 => ?_⟩⟩
    obtain ⟨F8, g8, s8, at8⟩ := g7.put' (o := .tup (cutV ys none (some (1 + m)))) hp8
    refine ⟨by show (vs ++ [V.ref p7, V.ref p8]).length ≤ sizeLine; rw [List.length_append, l6]; exact (by decide : 4 + 2 ≤ sizeLine), fun p9 hp9 => ?_⟩
    obtain ⟨F9, g9, s9, at9⟩ := g8.put' (o := .lst (vs ++ [V.ref p7, V.ref p8])) hp9
    refine ⟨a5, p9, x5, _, rfl, rfl, g9.same _ _ (s9 _ _ (s8 _ _ (s7 _ _ (s6 _ _ h5)))), upd_same, by rw [List.length_append, l5, l6]; exact (by decide : 3 + (4 + 2) ≤ sizeLine), fun pa hpa => ?_⟩
    obtain ⟨Fa, ga, sa, ata⟩ := g9.put' (o := .lst (x5 ++ (vs ++ [V.ref p7, V.ref p8]))) hpa
    -- four more
    refine ⟨_, rfl, fun vb Nb Hb nb rb => ?_⟩
    obtain ⟨Fb, gb, sb, tb⟩ := ga.lit' nb
    obtain ⟨ab, xb, rfl, hb, hxb⟩ := Rep.mono tb _ rb
    have lb := hxb.length
    refine ⟨pa, ab, _, xb, rfl, rfl, gb.same _ _ (sb _ _ ata), gb.same _ _ hb, by rw [List.length_append, List.length_append, l5, l6, lb]; exact (by decide : 3 + (4 + 2) + 4 ≤ sizeLine), fun pc hpc => ?_⟩
    obtain ⟨Fc, gc, sc, atc⟩ := gb.put' (o := .lst (x5 ++ (vs ++ [V.ref p7, V.ref p8]) ++ xb)) hpc
    -- five more
    refine ⟨_, rfl, fun vd Nd Hd nd rd => ?_⟩
    obtain ⟨Fd, gd, sd, td⟩ := gc.lit' nd
    obtain ⟨ad, xd, rfl, hd, hxd⟩ := Rep.mono td _ rd
    have ld := hxd.length
    refine ⟨pc, ad, _, xd, rfl, rfl, gd.same _ _ (sd _ _ atc), gd.same _ _ hd, by rw [List.length_append, List.length_append, List.length_append, l5, l6, lb, ld]; exact (by decide : 3 + (4 + 2) + 4 + 5 ≤ sizeLine), fun pe hpe => ?_⟩
    obtain ⟨Fe, ge, se, ate⟩ := gd.put' (o := .lst (x5 ++ (vs ++ [V.ref p7, V.ref p8]) ++ xb ++ xd)) hpe
    -- four more
    refine ⟨_, rfl, fun vf Nf Hf nf rf => ?_⟩
    obtain ⟨Ff, gf, sf, tf⟩ := ge.lit' nf
    obtain ⟨af, xf, rfl, hf, hxf⟩ := Rep.mono tf _ rf
    have lf := hxf.length
    refine ⟨pe, af, _, xf, rfl, rfl, gf.same _ _ (sf _ _ ate), gf.same _ _ hf, by rw [List.length_append, List.length_append, List.length_append, List.length_append, l5, l6, lb, ld, lf]; exact (by decide : 3 + (4 + 2) + 4 + 5 + 4 ≤ sizeLine), fun pg hpg => ?_⟩
    obtain ⟨Fg, gg, sg, atg⟩ := gf.put' (o := .lst (x5 ++ (vs ++ [V.ref p7, V.ref p8]) ++ xb ++ xd ++ xf)) hpg
    -- the last two
    refine ⟨_, rfl, _, rfl, fun vh Nh Hh nh rh => ?_⟩
    obtain ⟨Fh, gh, sh, th⟩ := gg.lit' nh
    obtain ⟨ah, xh, rfl, hh, hxh⟩ := Rep.mono th _ rh
    have lh := hxh.length
    have lall : (x5 ++ (vs ++ [V.ref p7, V.ref p8]) ++ xb ++ xd ++ xf ++ xh).length = 24 := by
      rw [List.length_append, List.length_append, List.length_append, List.length_append, List.length_append, List.length_append, l5, l6, lb, ld, lf, lh]; rfl
    refine ⟨pg, ah, _, xh, rfl, rfl, gh.same _ _ (sh _ _ atg), gh.same _ _ hh, by rw [← List.length_append, lall]; decide, fun pi hpi => ?_⟩
    obtain ⟨Fi, gi, si, ati⟩ := gh.put' (o := .lst (x5 ++ (vs ++ [V.ref p7, V.ref p8]) ++ xb ++ xd ++ xf ++ xh)) hpi
    refine ⟨b, pi, _, rfl, gi.bag, upd_same, gi.ne ati, fun z => (by rw [z] at lall; cases lall), by rw [lall]; decide, fun v Hj hv sbj btj => ?_⟩
    have gj := gi.took sbj btj
    have up5 := ((((((((s6.trans s7).trans s8).trans s9).trans sa).trans sb).trans sc).trans sd).trans se).trans (((sf.trans sg).trans sh).trans si)
    have up8 := (((((s9.trans sa).trans sb).trans sc).trans sd).trans se).trans (((sf.trans sg).trans sh).trans si)
    have up7 := s8.trans up8
    have rr' : RepAll K Fi (cutV ys none (some (1 + m))) rs := RepAll.mono (s5.trans up5) _ rr
    have q7 : Rep K Fi (.ref p7) (.tup rs) := ⟨p7, _, rfl, up7 _ _ at7, rr'⟩
    have q8 : Rep K Fi (.ref p8) (.tup rs) := ⟨p8, _, rfl, up8 _ _ at8, rr'⟩
    have grow : Gs (.tup rs) := gs_tup (by omega) irs
    have two : RepAll K Fi [V.ref p7, V.ref p8] [.tup rs, .tup rs] := ⟨_, _, rfl, q7, _, _, rfl, q8, rfl⟩
    have all := RepAll.append (RepAll.append (RepAll.append (RepAll.append (RepAll.append (RepAll.mono up5 _ hx5) (RepAll.append (RepAll.mono (s7.trans up7) _ hx6) two))
      (RepAll.mono ((((sc.trans sd).trans se).trans (((sf.trans sg).trans sh).trans si))) _ hxb)) (RepAll.mono ((se.trans (((sf.trans sg).trans sh).trans si))) _ hxd)) (RepAll.mono ((sg.trans sh).trans si) _ hxf)) (RepAll.mono si _ hxh)
    obtain ⟨d, hd', rd'⟩ := rep_mem all hv
    refine k v d Fi Hj gj rd' ?_
    rcases List.mem_append.mp hd' with hd' | hd'
    · rcases List.mem_append.mp hd' with hd' | hd'
      · rcases List.mem_append.mp hd' with hd' | hd'
        · rcases List.mem_append.mp hd' with hd' | hd'
          · rcases List.mem_append.mp hd' with hd' | hd'
            · exact gs_nears (by decide +kernel) d hd'
            · rcases List.mem_append.mp hd' with hd' | hd'
              · exact gs_nears (by decide +kernel) d hd'
              · simp only [List.mem_cons, List.not_mem_nil, or_false, or_self] at hd'
                subst hd'
                exact grow
          · exact gs_nears (by decide +kernel) d hd'
        · exact gs_nears (by decide +kernel) d hd'
      · exact gs_nears (by decide +kernel) d hd'
    · exact gs_nears (by decide +kernel) d hd'
end
end K

set_option Elab.async false
set_option linter.all false
set_option maxRecDepth 100000
set_option maxHeartbeats 8000000
namespace K
open PySem PySem.Spec PyProof.Rows L2 G D L S C Sx Kx Ex Lt
open Fz hiding Fr
open C8 (pss_cut tCut)
open PySem.W (dataLt alike AllAlike Sortable)
def isLst : Dat → Bool
  | .lst _ => true
  | _ => false
theorem kit_lst {K : PySem.W.Frag} {H : Hp} {d : Dat} {v : V} (h : Rep K H v d) : PySem.W.kitOne K d.ty (.type "list") = some (isLst d) := by
  cases d with
  | obj C a => exact h.2.1.i4
  | _ => first | exact kit_ty (r := true) (by decide +kernel) | exact kit_ty (r := false) (by decide +kernel)
/-- an item of a bent sequence -/
structure El (d : Dat) : Prop where
  fi : Fine 8 4000 d
  wd : Wd d
theorem Item.el {d : Dat} (h : Item d) : El d := ⟨h.fi.mono (by decide) (by decide), h.wd⟩
theorem Gd.el {d : Dat} (h : Gd d) : El d := ⟨h.fi, h.wd⟩
def elB (d : Dat) : Bool := fineB 8 4000 d && wd d
theorem el_of {d : Dat} (h : elB d = true) : El d := by
  unfold elB at h
  simp only [Bool.and_eq_true] at h
  exact ⟨fine_of h.1, h.2⟩
/-- a bent datum -/
structure Gb (d : Dat) : Prop where
  fi : Fine 9 36021 d
  wd : Wd d
  tp : top1 d ≤ 1000
theorem Gd.gb {d : Dat} (h : Gd d) : Gb d := ⟨h.fi.mono (by decide) (by decide), h.wd, h.tp⟩
theorem gb_seq {ds : List Dat} (hl : ds.length ≤ 9) (h : ∀ d ∈ ds, El d) : Gb (.lst ds) ∧ Gb (.tup ds) := by
  have w := wd_of (ds := ds) (Nat.le_trans hl (by decide)) fun x hx => (h x hx).wd
  exact ⟨⟨(fine_lst (m := 9) (fun x hx => (h x hx).fi) hl).mono (by decide) (by decide), w.1, Nat.le_trans hl (by decide)⟩, ⟨(fine_tup (m := 9) (fun x hx => (h x hx).fi) hl).mono (by decide) (by decide), w.2, Nat.le_trans hl (by decide)⟩⟩
section
variable {P : Program} {w : World} {K : PySem.W.Frag} {mg : Str → Option Value} {base : Heap}
abbrev s_law_bent : Stmt := top 30
theorem sc_law_bent : FnScope ["bag", "thing", "at", "found", "way", "some"] ["bag", "thing"] (defScope s_law_bent) := ⟨rfl, rfl, rfl, by decide +kernel, rfl, by decide +kernel, by decide +kernel⟩
theorem ok_bent {f : Addr} {fd : FuncData} (F : Fun K "_law_bent" "_law_bent" s_law_bent f fd) (T : Bl mg)
    (D_law_take : Def P w K mg base 2 "_law_take" ["bag", "many"] spTake) (D_law_one : Def P w K mg base 3 "_law_one" ["bag", "things"] spOne)
    (D_law_odd : Def P w K mg base 4 "_law_odd" ["bag"] (spDraw K Gd)) :
    Fn P w K mg base CX0 5 f fd ["bag", "thing"] (spDraw1 K Gs Gb) := by
  refine fn_calm F sc_law_bent (fun vs H Q E h => ?_) (fun cdv A outer s H vs Q E hc hr h => ?_)
  · obtain ⟨b, F, u, e, rfl, _⟩ := h
    rfl
  · obtain ⟨b, F0, u, e, rfl, fr, hv, gs, k⟩ := h
    have hu64 := hr.units
    obtain ⟨ds, ed, hl, hi⟩ := gs.ex
    obtain ⟨p, xs, rfl, sq, hxs⟩ : ∃ p xs, u = .ref p ∧ (∀ H', Same F0 H' → SqL K H' p xs ∨ SqT K H' p xs) ∧ RepAll K F0 xs ds := by
      rcases ed with rfl | rfl
      · obtain ⟨a, xs, rfl, ha, hx⟩ := hv
        exact ⟨a, xs, rfl, fun H' s => .inl (SqL.of (s _ _ ha)), hx⟩
      · obtain ⟨a, xs, rfl, ha, hx⟩ := hv
        exact ⟨a, xs, rfl, fun H' s => .inr (SqT.of (s _ _ ha)), hx⟩
    have seq : e.isSeq = true := by rcases ed with rfl | rfl <;> rfl
    have lx := hxs.length
    have l1 : xs.length ≤ 8 := by omega
    refine ⟨_, (pss_cons (ps_if (PW.pt (pw_or (pt_not (pt_val (pe_callB call_isiT (by rfl) T.isinstanceN (by decide +kernel) (pa_cons (pv 1) (pa_cons (pe_tup (pa_cons (pe_bltn (v := .ty "list") (by rfl) T.listN (by decide +kernel) rfl) (pa_cons (pe_bltn (v := .ty "tuple") (by rfl) T.tupleN (by decide +kernel) rfl) pa_nil))) pa_nil))))) (pw_or1 (pt_cmpR op_eq (pe_callB call_len_seq (by rfl) T.lenN (by decide +kernel) (pa_cons (pv 1) pa_nil)) pe_int (nomark _)))))
  (pss_one (ps_ret (pe_def D_law_odd hc (hr.mono (by decide)) (pa_cons (pv 0) pa_nil))))
  pss_nil)
 (pss_cons (ps_par (i := 2) (j := 3) (by rfl) sc_law_bent.nd rfl rfl (by decide) rfl rfl (pa_cons (pe_def D_law_take hc (hr.mono (by decide)) (pa_cons (pv 0) (pa_cons (pe_callB call_len_seq (by rfl) T.lenN (by decide +kernel) (pa_cons (pv 1) pa_nil)) pa_nil))) (pa_cons (pe_callTy call_list_of (by rfl) T.listN (by decide +kernel) (pa_cons (pv 1) pa_nil)) pa_nil)) (by rfl))
 (pss_cons (ps_set (i := 4) sc_law_bent.nd rfl (Or.inl rfl) (pe_def D_law_take hc (hr.mono (by decide)) (pa_cons (pv 0) (pa_cons pe_int pa_nil))))
 (pss_cut (ps_if (pt_cmpR op_eq (pv 4) pe_int (nomark _))
  (pss_cons (ps_set (i := 5) sc_law_bent.nd rfl (Or.inl rfl) (pe_lst (pa_mix 9 7 (ds := [.non, .bl true, .int 0, .lst [.str "a"], .tup [.str "a", .str "b"], .str "a", .str ""]) (by rfl) (by rfl) (pa_cons (pe_def D_law_odd hc (hr.mono (by decide)) (pa_cons (pv 0) pa_nil)) pa_nil))))
 (pss_one (ps_asg (pe_ifExp (PW.pt (pw_and (pt_val (pe_callB call_isi (by rfl) T.isinstanceN (by decide +kernel) (pa_cons (pe_ix ix_list (pv 3) (pv 2) (fun _ _ => rfl)) (pa_cons (pe_bltn (v := .ty "tuple") (by rfl) T.tupleN (by decide +kernel) rfl) pa_nil)))) (pw_and1 (pt_cmpR op_eq (pe_def D_law_take hc (hr.mono (by decide)) (pa_cons (pv 0) (pa_cons pe_int pa_nil))) pe_int (nomark _))))) (pe_callTy call_list_of (by rfl) T.listN (by decide +kernel) (pa_cons (pe_ix ix_list (pv 3) (pv 2) (fun _ _ => rfl)) pa_nil)) (pe_def D_law_one hc (hr.mono (by decide)) (pa_cons (pv 0) (pa_cons (pv 5) pa_nil)))) (pg_sub (pv 3) (pv 2) set_list))))
  pss_nil)
 (pss_cut (ps_if (pt_cmpR op_eq (pv 4) pe_int (nomark _))
  (pss_one (ps_expr (pe_bm PySem.F.plainAttrs_list PySem.F.slot_list_pop PySem.F.type_list_pop mt_popAt (pv 3) (pa_cons (pv 2) pa_nil))))
  pss_nil)
 (pss_cut (ps_if (pt_cmpR op_eq (pv 4) pe_int (nomark _))
  (pss_one (ps_expr (pe_bm PySem.F.plainAttrs_list PySem.F.slot_list_insert PySem.F.type_list_insert mt_insert (pv 3) (pa_cons (pv 2) (pa_cons (pe_ix ix_list (pv 3) (pv 2) (fun _ _ => rfl)) pa_nil)))))
  pss_nil)
 (pss_one (ps_ret (pe_ifExp (PW.pt (pw_or (PW.pt (pw_and (pt_val (pe_callB call_isi (by rfl) T.isinstanceN (by decide +kernel) (pa_cons (pv 1) (pa_cons (pe_bltn (v := .ty "tuple") (by rfl) T.tupleN (by decide +kernel) rfl) pa_nil)))) (pw_and1 (pt_cmpR op_eq (pv 4) pe_int (nomark _))))) (pw_or1 (pt_val (pe_callB call_isi (by rfl) T.isinstanceN (by decide +kernel) (pa_cons (pv 1) (pa_cons (pe_bltn (v := .ty "list") (by rfl) T.listN (by decide +kernel) rfl) pa_nil))))))) (pv 3) (pe_callTy call_tuple_of (by rfl) T.tupleN (by decide +kernel) (pa_cons (pv 3) pa_nil))))))))))), ?_⟩
    refine ⟨_, rfl, by show 2 ≤ sizeLine; decide, fun p0 hp0 => ?_⟩
    have hv1 := Rep.mono (fr.same.trans (same_upd (o := .tup [.ty "list", .ty "tuple"]) hp0)) _ hv
    have kit := kit_seq hv1
    rw [seq] at kit
    refine ⟨_, p0, _, _, _, _, rfl, upd_same, .cons (.ty _) (.cons (.ty _) .nil), hv1.ty, kit, _, rfl, ?_⟩
    have g1 := (Go.refl fr).grow (same_upd (o := .tup [.ty "list", .ty "tuple"]) hp0)
    generalize upd H p0 (.tup [.ty "list", .ty "tuple"]) = H1 at g1
    refine iteF ?_
    refine ⟨_, rfl, p, xs, rfl, sq _ g1.same, rfl, _, rfl, ?_⟩
    refine ite2 (fun e0 => ?_) (fun e0 => ?_)
    · exact ⟨_, rfl, b, F0, rfl, g1.fr, fun v d F' H' go r gd => k v d F' H' (g1.trans go) r gd.gb⟩
    have n0 : 0 < xs.length := by
      by_cases z : xs.length = 0
      · exact absurd (decide_eq_true (by rw [z]; rfl)) e0
      · omega
    refine ⟨_, rfl, _, rfl, p, xs, rfl, sq _ g1.same, b, _, rfl, g1.bag, by omega, by omega, fun at1 H2 a0 an sb2 bt2 => ?_⟩
    have g2 := g1.took sb2 bt2
    refine ⟨_, rfl, p, xs, rfl, sq _ g2.same, fun D hD => ⟨_, _, rfl, ?_⟩⟩
    have own2 := g2.own (G := El) hD hxs fun d hd => (hi d hd).el
    generalize upd H2 D (.lst xs) = H3 at own2
    refine ⟨_, rfl, b, 5, rfl, own2.go.bag, by decide, by decide, fun way H4 w0 w5 sb4 bt4 => ?_⟩
    have own4 := own2.on ((Go.refl own2.go.fr).took sb4 bt4)
    clear own2
    have ean : ((at1.toNat : Nat) : Int) = at1 := Int.toNat_of_nonneg a0
    have hat : at1.toNat < xs.length := by omega
    -- way 0
    refine ⟨fun σ H' => ∃ F' ys es o5, σ = [some (.ref b), some (.ref p), some (.int at1), some (.ref D), some (.int way), o5] ∧ Own K El b D F0 H F' H' ys es ∧ ys.length = xs.length, ?_, ?_⟩
    · refine ⟨_, rfl, rfl, _, rfl, ?_⟩
      refine ite2 (fun e1 => ?_) (fun e1 => ?_)
      · intro vs N5 H5 n5 r5
        obtain ⟨F5, g5, s5, t5⟩ := (Go.refl own4.go.fr).lit' n5
        have l5 := r5.length
        refine ⟨_, rfl, b, F5, rfl, g5.fr, fun vo do6 F6 H6 g6 r6 gd6 => ?_⟩
        refine ⟨by show (vs ++ [vo]).length ≤ sizeLine; rw [List.length_append, l5]; exact (by decide : 7 + 1 ≤ sizeLine), fun p7 hp7 => ?_⟩
        obtain ⟨F7, g7, s7, at7⟩ := (Go.refl g6.fr).put' (o := .lst (vs ++ [vo])) hp7
        have own7 := ((own4.on g5).on g6).on g7
        have r7 : RepAll K F7 (vs ++ [vo]) _ := RepAll.mono s7 _ (RepAll.append (RepAll.mono (t5.trans g6.up) _ r5) (.one r6))
        have hx : xs[at1.toNat]? = some xs[at1.toNat] := List.getElem?_eq_getElem hat
        obtain ⟨dx, hdx, rx⟩ := own7.hs.get hx
        have ix := hi dx (List.mem_of_getElem? hdx)
        have ha := atI_nat hx
        rw [ean] at ha
        have fin : ∀ (F8 H8 : Hp) (v : V) (d : Dat), Own K El b D F0 H F8 H8 xs ds → Rep K F8 v d → El d → ∀ σ, σ = [some (.ref b), some (.ref p), some (.int at1), some (.ref D), some (.int way), some (V.ref p7)] →
            gSub (tVar 3) (tVar 2) rSetL v σ H8 (fun σ' H' => ∃ F' ys es o5, σ' = [some (.ref b), some (.ref p), some (.int at1), some (.ref D), some (.int way), o5] ∧ Own K El b D F0 H F' H' ys es ∧ ys.length = xs.length) := by
          rintro F8 H8 v d ow rd ed σ rfl
          refine ⟨_, rfl, _, rfl, D, xs, at1, at1.toNat, rfl, rfl, ow.at1, ?_, F8, xs.set at1.toNat v, ds.set at1.toNat d, _, rfl, ow.set (RepAll.set _ ow.hs rd) (fun x hx => ?_), by rw [List.length_set]⟩
          · unfold ixN
            rw [if_pos a0, if_pos (by omega)]
          · rcases List.mem_or_eq_of_mem_set hx with hx | rfl
            · exact (hi x hx).el
            · exact ed
        refine ⟨_, rfl, _, rfl, D, xs, at1, _, rfl, rfl, SqL.of own7.at1, ha, _, _, _, _, _, rfl, .ty "tuple", (Rep.mono own7.go.same _ rx).ty, kit_tup (Rep.mono own7.go.same _ rx), _, rfl, ?_⟩
        have one : ∀ H8, Own K El b D F0 H F7 H8 xs ds → ∀ σ, σ = [some (.ref b), some (.ref p), some (.int at1), some (.ref D), some (.int way), some (V.ref p7)] →
            ∃ x, σ[0]? = some (some x) ∧ ∃ y, σ[5]? = some (some y) ∧ spOne [x, y] H8 (fun v H9 => gSub (tVar 3) (tVar 2) rSetL v σ H9 (fun σ' H' => ∃ F' ys es o5, σ' = [some (.ref b), some (.ref p), some (.int at1), some (.ref D), some (.int way), o5] ∧ Own K El b D F0 H F' H' ys es ∧ ys.length = xs.length)) E0 := by
          rintro H8 ow σ rfl
          refine ⟨_, rfl, _, rfl, b, p7, _, rfl, ow.go.bag, ow.go.same _ _ at7, ow.go.ne at7, ?_, ?_, fun v H9 hv9 sb9 bt9 => ?_⟩
          · simp
          · rw [List.length_append, l5]
            exact (by decide : 7 + 1 < 1000000)
          · obtain ⟨d, hd, rd⟩ := rep_mem r7 hv9
            refine fin F7 H9 v d (ow.on ((Go.refl ow.go.fr).took sb9 bt9)) rd ?_ _ rfl
            rcases List.mem_append.mp hd with hd | hd
            · exact el_of (List.all_eq_true.mp (by decide +kernel) d hd)
            · rw [List.mem_singleton] at hd
              subst hd
              exact gd6.el
        cases hT : dx.isTup with
        | true =>
          refine iteT ?_
          refine ⟨_, rfl, b, 2, rfl, own7.go.bag, by decide, by decide, fun q H8 q0 q2 sb8 bt8 => ⟨rfl, _, rfl, ?_⟩⟩
          have own8 := own7.on ((Go.refl own7.go.fr).took sb8 bt8)
          refine ite2 (fun e2 => ?_) (fun e2 => ?_)
          · obtain ⟨es, rfl⟩ : ∃ es, dx = .tup es := by
              cases dx with
              | tup es => exact ⟨es, rfl⟩
              | _ => cases hT
            obtain ⟨pe, ys, ex, he, hys⟩ := rx
            rw [ex] at ha
            refine ⟨_, rfl, _, rfl, D, xs, at1, _, rfl, rfl, SqL.of own8.at1, ha, pe, ys, rfl, .inr (SqT.of (own8.go.same _ _ he)), fun q9 hq9 => ?_⟩
            obtain ⟨F9, g9, s9, at9⟩ := (Go.refl own8.go.fr).put' (o := .lst ys) hq9
            exact fin F9 _ (.ref q9) (.lst es) (own8.on g9) ⟨q9, ys, rfl, at9, RepAll.mono s9 _ hys⟩ ⟨(ix.ls es rfl).1.mono (by decide) (by decide), (ix.ls es rfl).2⟩ _ rfl
          · exact one H8 own8 _ rfl
        | false => exact iteF (one _ own7 _ rfl)
      · exact ⟨_, _, _, _, rfl, own4, rfl⟩
    rintro σ H5 ⟨F5, ys, es, o5, rfl, own5, ly⟩
    -- way 1
    refine ⟨fun σ H' => ∃ F' ys es o5, σ = [some (.ref b), some (.ref p), some (.int at1), some (.ref D), some (.int way), o5] ∧ Own K El b D F0 H F' H' ys es ∧ ys.length ≤ xs.length ∧ (way ≠ 1 → ys.length = xs.length), ?_, ?_⟩
    · refine ⟨_, rfl, rfl, _, rfl, ?_⟩
      refine ite2 (fun e1 => ?_) (fun e1 => ?_)
      · have hy : ys[at1.toNat]? = some (ys[at1.toNat]'(by omega)) := List.getElem?_eq_getElem (by omega)
        refine ⟨_, rfl, .inl ⟨rfl, ys, SqL.of own5.at1⟩, _, rfl, D, ys, at1, at1.toNat, _, rfl, rfl, own5.at1, by omega, by omega, seqIndex_at a0 (by omega), hy, F5, _, es.eraseIdx at1.toNat, o5, rfl, own5.set ?_ fun x hx => own5.al x (List.mem_of_mem_eraseIdx hx), ?_, fun z => ?_⟩
        · rw [List.eraseIdx_eq_take_drop_succ, List.eraseIdx_eq_take_drop_succ]
          exact RepAll.append (RepAll.take _ own5.hs) (RepAll.drop _ own5.hs)
        · have := List.length_eraseIdx_le ys at1.toNat
          omega
        · exact absurd (V.int.inj (of_decide_eq_true e1)) z
      · exact ⟨F5, ys, es, o5, rfl, own5, by omega, fun _ => ly⟩
    clear own5
    rintro σ H6 ⟨F6, ys, es, o5, rfl, own6, ly, ly1⟩
    -- way 2
    refine ⟨fun σ H' => ∃ F' ys es o5, σ = [some (.ref b), some (.ref p), some (.int at1), some (.ref D), some (.int way), o5] ∧ Own K El b D F0 H F' H' ys es ∧ ys.length ≤ 9, ?_, ?_⟩
    · refine ⟨_, rfl, rfl, _, rfl, ?_⟩
      refine ite2 (fun e1 => ?_) (fun e1 => ?_)
      · have w2 : way = 2 := V.int.inj (of_decide_eq_true e1)
        have ly2 := ly1 (by omega)
        have hy : ys[at1.toNat]? = some (ys[at1.toNat]'(by omega)) := List.getElem?_eq_getElem (by omega)
        have ha := atI_nat hy
        rw [ean] at ha
        obtain ⟨dy, hdy, ry⟩ := own6.hs.get hy
        refine ⟨_, rfl, .inl ⟨rfl, ys, SqL.of own6.at1⟩, _, rfl, _, rfl, _, rfl, D, ys, at1, _, rfl, rfl, SqL.of own6.at1, ha, D, ys, at1, _, rfl, rfl, own6.at1, Nat.lt_of_le_of_lt (by omega : ys.length ≤ 8) (by decide), a0, by omega, F6, _, es.take at1.toNat ++ [dy] ++ es.drop at1.toNat, o5, rfl, own6.set ?_ fun x hx => ?_, ?_⟩
        · exact RepAll.append (RepAll.append (RepAll.take _ own6.hs) (.one ry)) (RepAll.drop _ own6.hs)
        · rcases List.mem_append.mp hx with hx | hx
          · rcases List.mem_append.mp hx with hx | hx
            · exact own6.al x (List.mem_of_mem_take hx)
            · rw [List.mem_singleton] at hx
              subst hx
              exact own6.al _ (List.mem_of_getElem? hdy)
          · exact own6.al x (List.mem_of_mem_drop hx)
        · rw [List.length_append, List.length_append, List.length_take, List.length_drop, List.length_singleton]
          omega
      · exact ⟨F6, ys, es, o5, rfl, own6, by omega⟩
    clear own6
    rintro σ H7 ⟨F7, ys, es, o5, rfl, own7, ly9⟩
    have les : es.length ≤ 9 := by rw [← own7.hs.length]; exact ly9
    have gb := gb_seq les own7.al
    have keep : Q (.ref D) H7 := k _ (.lst es) _ _ own7.end.1 own7.end.2 gb.1
    have made : ∀ q, H7 q = none → Q (.ref q) (upd H7 q (.tup ys)) := fun q hq => by
      obtain ⟨F8, g8, s8, at8⟩ := own7.go.put' (o := .tup ys) hq
      exact k (.ref q) (.tup es) F8 _ g8 ⟨q, ys, rfl, at8, RepAll.mono s8 _ own7.hs⟩ gb.2
    have hv7 := Rep.mono (own7.go.up.trans own7.go.same) _ hv
    refine ⟨_, rfl, _, _, _, _, _, rfl, .ty "tuple", hv7.ty, kit_tup hv7, _, rfl, ?_⟩
    cases hT : e.isTup with
    | true =>
      refine iteT ?_
      refine ⟨_, rfl, rfl, _, rfl, ?_⟩
      refine ite2 (fun e3 => ?_) (fun e3 => ?_)
      · refine iteT ?_
        exact ⟨_, rfl, keep⟩
      · refine ⟨_, rfl, _, _, _, _, _, rfl, .ty "list", hv7.ty, kit_lst hv7, _, rfl, ?_⟩
        refine ite2 (fun e4 => ?_) (fun e4 => ?_)
        · exact ⟨_, rfl, keep⟩
        · exact ⟨_, rfl, D, ys, rfl, .inl ⟨SqL.of own7.at1, made⟩⟩
    | false =>
      refine iteF ?_
      refine iteF ?_
      refine ⟨_, rfl, _, _, _, _, _, rfl, .ty "list", hv7.ty, kit_lst hv7, _, rfl, ?_⟩
      refine ite2 (fun e4 => ?_) (fun e4 => ?_)
      · exact ⟨_, rfl, keep⟩
      · exact ⟨_, rfl, D, ys, rfl, .inl ⟨SqL.of own7.at1, made⟩⟩
end
end K

set_option Elab.async false
set_option linter.all false
set_option maxRecDepth 100000
set_option maxHeartbeats 8000000
namespace K
open PySem PySem.Spec PyProof.Rows L2 G D L S C Sx Kx Ex Lt
open Fz hiding Fr
open C8 (pss_cut tCut)
open PySem.W (dataLt alike AllAlike Sortable)
/-- an expression that is never reached -/
theorem pe_no {X : Cx} {e : Expr} : PE X e (fun _ _ _ => False) := ⟨fun _ _ _ _ _ _ h => h.elim⟩
/-- Gate(1, ['a'], [], []) -/
def spInit (C : Addr) : Sp := fun vs H Q _ => ∃ (x dx d c r : Addr), vs = [.ref x, .int 1, .ref d, .ref c, .ref r] ∧ H x = some (.ins C dx []) ∧ H d = some (.lst [.str "a"]) ∧ H c = some (.lst []) ∧ H r = some (.lst []) ∧
  ∀ H' fs, H' x = some (.ins C dx fs) → Q .non H'
theorem ord_nil : Ord [] := by
  refine ⟨fun d hd => ?_, fun d hd => ?_, .inl fun d hd => ?_, fun d hd => ?_⟩ <;> cases hd
theorem ord_one : Ord [.str "a"] := by
  refine ⟨fun d hd => ?_, fun d hd e he => ?_, .inr fun d hd => ?_, fun d hd => ?_⟩
  · rw [List.mem_singleton] at hd
    subst hd
    rfl
  · simp [Dat.py] at hd he
    subst hd he
    decide
  · simp [Dat.py] at hd
    subst hd
    exact ⟨fun e => (by cases e), fun xs e => (by cases e)⟩
  · rw [List.mem_singleton] at hd
    subst hd
    decide
theorem putF_len (f : Str) (v : V) : ∀ fs : List (Str × V), (putF f v fs).length ≤ fs.length + 1
  | [] => Nat.le_refl _
  | (g, u) :: fs => by
    have := putF_len f v fs
    show (if g = f then _ else _ : List (Str × V)).length ≤ _
    split <;> simp <;> omega
section
variable {P : Program} {w : World} {K : PySem.W.Frag} {mg : Str → Option Value} {base : Heap}
abbrev s_Gate___eq__ : Stmt := inClass (top 15) 1
theorem sc_Gate___eq__ : FnScope ["self", "other"] ["self", "other"] (defScope s_Gate___eq__) := ⟨rfl, rfl, rfl, by decide +kernel, rfl, by decide +kernel, by decide +kernel⟩
theorem ok_eq {f C : Addr} {fd : FuncData} (F : Fun K "__eq__" "Gate.__eq__" s_Gate___eq__ f fd) (T : Bl mg) (hG : mg "Gate" = some (.ref C))
    (ks : PySem.W.kitOne K (.type "str") (.ref C) = some false) : Fn P w K mg base CX0 2 f fd ["self", "other"] (spNe C) := by
  refine fn_calm F sc_Gate___eq__ (fun vs H Q E h => ?_) (fun cdv A outer s H vs Q E hc hr h => ?_)
  · obtain ⟨a, t, dx, fs, rfl, _⟩ := h
    rfl
  · obtain ⟨a, t, dx, fs, rfl, ha, k⟩ := h
    refine ⟨_, (pss_one (ps_ret (pe_and (pe_callB call_isi (by rfl) T.isinstanceN (by decide +kernel) (pa_cons (pv 1) (pa_cons (pe_glob (v := .ref C) rfl hG rfl) pa_nil))) pe_no))), ?_⟩
    exact ⟨_, rfl, _, _, _, _, _, rfl, .own C, .base (.str t), ks, _, rfl, k H (.refl H)⟩
abbrev s_Gate___init__ : Stmt := inClass (top 15) 0
theorem sc_Gate___init__ : FnScope ["self", "states", "doors", "closet", "rules", "rule"] ["self", "states", "doors", "closet", "rules"] (defScope s_Gate___init__) := ⟨rfl, rfl, rfl, by decide +kernel, rfl, by decide +kernel, by decide +kernel⟩
theorem ok_init {f C : Addr} {fd : FuncData} (F : Fun K "__init__" "Gate.__init__" s_Gate___init__ f fd) (T : Bl mg) (cl : Cls K C)
    (n1 : NoAttr K C "_states") (n2 : NoAttr K C "_doors") (n3 : NoAttr K C "_closet") (n4 : NoAttr K C "_rules")
    (D_is_integer : Def P w K mg base 2 "is_integer" ["thing"] (spB K (fun _ => True) isWhole))
    (D_are_names : Def P w K mg base 3 "are_names" ["thing"] (spB K (fun d => Wd d ∧ ∀ ds, d = .lst ds ∨ d = .tup ds → ds.length < 4000) areNames)) :
    Fn P w K mg base CX0 4 f fd ["self", "states", "doors", "closet", "rules"] (spInit C) := by
  refine fn_calm F sc_Gate___init__ (fun vs H Q E h => ?_) (fun cdv A outer s H vs Q E hc hr h => ?_)
  · obtain ⟨x, dx, d, c, r, rfl, _⟩ := h
    rfl
  · obtain ⟨x, dx, d, c, r, rfl, hx, hd, hC, hR, k⟩ := h
    have hu64 := hr.units
    refine ⟨_, (pss_cons (ps_if (PW.pt (pw_or (pt_not (pt_val (pe_def D_is_integer hc (hr.mono (by decide)) (pa_cons (pv 1) pa_nil)))) (pw_or1 (pt_not (pt_chain op_le op_le pe_int (pv 1) pe_int)))))
  (pss_one ps_never)
  pss_nil)
 (pss_cons (ps_if (PW.pt (pw_or (pt_not (pt_val (pe_def D_are_names hc (hr.mono (by decide)) (pa_cons (pv 2) pa_nil)))) (pw_or1 (pt_cmpR op_eq (pe_callB call_len_seq (by rfl) T.lenN (by decide +kernel) (pa_cons (pv 2) pa_nil)) pe_int (nomark _)))))
  (pss_one ps_never)
  pss_nil)
 (pss_cons (ps_if (pt_not (pt_val (pe_def D_are_names hc (hr.mono (by decide)) (pa_cons (pv 3) pa_nil))))
  (pss_one ps_never)
  pss_nil)
 (pss_cons (ps_if (pt_not (pt_val (pe_callB call_isiT (by rfl) T.isinstanceN (by decide +kernel) (pa_cons (pv 4) (pa_cons (pe_tup (pa_cons (pe_bltn (v := .ty "list") (by rfl) T.listN (by decide +kernel) rfl) (pa_cons (pe_bltn (v := .ty "tuple") (by rfl) T.tupleN (by decide +kernel) rfl) pa_nil))) pa_nil)))))
  (pss_one ps_never)
  pss_nil)
 (pss_cons (ps_fld (pv 0) (pv 1) rfl)
 (pss_cons (ps_fld (pv 0) (pe_callB (call_sorted hu64) (by rfl) T.sortedN (by decide +kernel) (pa_cons (pv 2) pa_nil)) rfl)
 (pss_cons (ps_fld (pv 0) (pe_callB (call_sorted hu64) (by rfl) T.sortedN (by decide +kernel) (pa_cons (pv 3) pa_nil)) rfl)
 (pss_cons (ps_fld (pv 0) pe_dnewK rfl)
 (pss_one (ps_for PassesOwn.never rfl (pi_list (pv 4)) (pg_name (i := 5) sc_Gate___init__.nd rfl (Or.inl rfl)) pss_never)))))))))), ?_⟩
    refine ⟨_, rfl, .int 1, .int 1, rfl, rfl, trivial, fun H1 s1 => ⟨_, rfl, ?_⟩⟩
    refine iteF ?_
    refine ⟨_, rfl, _, _, rfl, rfl, _, rfl, ?_⟩
    refine iteT ?_
    refine ⟨_, _, rfl, rfl, _, rfl, ?_⟩
    refine iteF ?_
    have eN : areNames (.lst [.str "a"]) = true := by decide +kernel
    have e0 : areNames (.lst []) = true := by decide +kernel
    refine ⟨_, rfl, .ref d, .lst [.str "a"], rfl, ⟨d, [.str "a"], rfl, s1 _ _ hd, .str "a", [], rfl, rfl, rfl⟩, ⟨by decide +kernel, fun ds e => ?_⟩, fun H2 s2 => ⟨_, rfl, ?_⟩⟩
    · rcases e with e | e <;> cases e
      decide
    rw [eN]
    refine iteF ?_
    have s12 := s1.trans s2
    refine ⟨_, rfl, d, _, rfl, .inl (SqL.of (s12 _ _ hd)), rfl, _, rfl, ?_⟩
    refine iteF ?_
    refine ⟨_, rfl, .ref c, .lst [], rfl, ⟨c, [], rfl, s12 _ _ hC, rfl⟩, ⟨by decide +kernel, fun ds e => ?_⟩, fun H3 s3 => ⟨_, rfl, ?_⟩⟩
    · rcases e with e | e <;> cases e
      decide
    rw [e0]
    refine iteF ?_
    have s13 := s12.trans s3
    refine ⟨_, rfl, by show 2 ≤ sizeLine; decide, fun p hp => ?_⟩
    have s4 := same_upd (o := .tup [.ty "list", .ty "tuple"]) hp
    have s14 := s13.trans s4
    have hr4 : Rep K (upd H3 p (.tup [.ty "list", .ty "tuple"])) (.ref r) (.lst []) := ⟨r, [], rfl, s14 _ _ hR, rfl⟩
    refine ⟨_, p, _, _, _, _, rfl, upd_same, .cons (.ty _) (.cons (.ty _) .nil), hr4.ty, kit_seq hr4, _, rfl, ?_⟩
    refine iteF ?_
    generalize upd H3 p (.tup [.ty "list", .ty "tuple"]) = H4 at s14 s4
    have xd : d ≠ x := fun z => by rw [z, hx] at hd; cases hd
    have xc : c ≠ x := fun z => by rw [z, hx] at hC; cases hC
    have xr : r ≠ x := fun z => by rw [z, hx] at hR; cases hR
    refine ⟨_, rfl, _, rfl, x, C, dx, _, rfl, s14 _ _ hx, cl, n1, by decide, ?_⟩
    have hd5 : (upd H4 x (.ins C dx (putF "_states" (.int 1) []))) d = some (.lst [.str "a"]) := by rw [upd_ne xd]; exact s14 _ _ hd
    have hc5 : (upd H4 x (.ins C dx (putF "_states" (.int 1) []))) c = some (.lst []) := by rw [upd_ne xc]; exact s14 _ _ hC
    have hr5 : (upd H4 x (.ins C dx (putF "_states" (.int 1) []))) r = some (.lst []) := by rw [upd_ne xr]; exact s14 _ _ hR
    have hx5 : (upd H4 x (.ins C dx (putF "_states" (.int 1) []))) x = some (.ins C dx (putF "_states" (.int 1) [])) := upd_same
    generalize upd H4 x (.ins C dx (putF "_states" (.int 1) [])) = H5 at hd5 hc5 hr5 hx5
    -- sorted(doors)
    refine ⟨_, rfl, d, [.str "a"], [.str "a"], H5, rfl, hd5, .refl _, ⟨_, [], rfl, rfl, rfl⟩, ord_one, fun p6 ys hp6 _ _ => ?_⟩
    have xp6 : x ≠ p6 := ne_of_none hx5 hp6
    refine ⟨_, rfl, x, C, dx, _, rfl, Eq.trans (upd_ne xp6) hx5, cl, n2, by decide, ?_⟩
    have s6 := same_upd (o := .lst ys) hp6
    have hc7 : (upd (upd H5 p6 (.lst ys)) x (.ins C dx (putF "_doors" (.ref p6) (putF "_states" (.int 1) [])))) c = some (.lst []) := by rw [upd_ne xc]; exact s6 _ _ hc5
    have hr7 : (upd (upd H5 p6 (.lst ys)) x (.ins C dx (putF "_doors" (.ref p6) (putF "_states" (.int 1) [])))) r = some (.lst []) := by rw [upd_ne xr]; exact s6 _ _ hr5
    have hx7 : (upd (upd H5 p6 (.lst ys)) x (.ins C dx (putF "_doors" (.ref p6) (putF "_states" (.int 1) [])))) x = some (.ins C dx (putF "_doors" (.ref p6) (putF "_states" (.int 1) []))) := upd_same
    generalize upd (upd H5 p6 (.lst ys)) x (.ins C dx (putF "_doors" (.ref p6) (putF "_states" (.int 1) []))) = H7 at hc7 hr7 hx7
    -- sorted(closet)
    refine ⟨_, rfl, c, [], [], H7, rfl, hc7, .refl _, rfl, ord_nil, fun p8 zs hp8 _ _ => ?_⟩
    have xp8 : x ≠ p8 := ne_of_none hx7 hp8
    have s8 := same_upd (o := .lst zs) hp8
    have f1 := putF_len "_states" (.int 1) []
    have f2 := putF_len "_doors" (.ref p6) (putF "_states" (.int 1) [])
    have f3 := putF_len "_closet" (.ref p8) (putF "_doors" (.ref p6) (putF "_states" (.int 1) []))
    have f0 : ([] : List (Str × V)).length = 0 := rfl
    generalize putF "_doors" (.ref p6) (putF "_states" (.int 1) []) = fs2 at hx7 f2 f3
    refine ⟨_, rfl, x, C, dx, _, rfl, Eq.trans (upd_ne xp8) hx7, cl, n3, by omega, ?_⟩
    have hr9 : (upd (upd H7 p8 (.lst zs)) x (.ins C dx (putF "_closet" (.ref p8) fs2))) r = some (.lst []) := by rw [upd_ne xr]; exact s8 _ _ hr7
    have hx9 : (upd (upd H7 p8 (.lst zs)) x (.ins C dx (putF "_closet" (.ref p8) fs2))) x = some (.ins C dx (putF "_closet" (.ref p8) fs2)) := upd_same
    generalize upd (upd H7 p8 (.lst zs)) x (.ins C dx (putF "_closet" (.ref p8) fs2)) = H9 at hr9 hx9
    generalize putF "_closet" (.ref p8) fs2 = fs3 at hx9 f3
    intro m hm
    have xm : x ≠ m := ne_of_none hx9 hm
    have sm := same_upd (o := .dK []) hm
    refine ⟨_, rfl, x, C, dx, _, rfl, sm _ _ hx9, cl, n4, by omega, ?_⟩
    have hrb : (upd (upd H9 m (.dK [])) x (.ins C dx (putF "_rules" (.ref m) fs3))) r = some (.lst []) := by rw [upd_ne xr]; exact sm _ _ hr9
    refine ⟨_, rfl, r, rfl, ⟨[], SqL.of hrb⟩, for_list (K := K) (a := r) (xs := []) (fun i σ H' => SqL K H' r [] ∧ ∃ fs, H' x = some (.ins C dx fs)) ⟨SqL.of hrb, _, upd_same⟩ (fun i σ H' _ h => h.1) (fun i y σ H' h => by cases h) fun σ H' h => ?_⟩
    obtain ⟨_, fs, h⟩ := h
    exact k H' fs h
end
end K

set_option Elab.async false
set_option linter.all false
set_option maxRecDepth 100000
set_option maxHeartbeats 8000000
namespace K
open PySem PySem.Spec PyProof.Rows L2 G D L S C Sx Kx Ex Lt
open Fz hiding Fr
open C8 (pss_cut tCut)
open PySem.W (dataLt alike AllAlike Sortable)
/-- the frozen part at the start: all but the bag -/
theorem fr_start {H : Hp} {b l : Addr} (h : BagL H b l) : Fz.Fr (fun y => if y = b then none else H y) H b := by
  have lb : l ≠ b := fun z => by
    obtain ⟨c0, c1, c2, ms, h1, h2, _⟩ := h
    rw [z, h1] at h2
    have q := HO.lst.inj (Option.some.inj h2)
    have : V.ref l ∈ ms.map V.int := by rw [← q]; simp
    obtain ⟨m, _, e⟩ := List.mem_map.mp this
    cases e
  refine ⟨fun y o e => ?_, if_pos rfl, l, ?_⟩
  · by_cases q : y = b
    · rw [if_pos q] at e
      cases e
    · rw [if_neg q] at e
      exact e
  · obtain ⟨c0, c1, c2, ms, h1, h2, r⟩ := h
    exact ⟨_, ⟨c0, c1, c2, ms, h1, h2, r⟩, by rw [if_neg lb]; exact h2⟩
theorem Gs.gb {d : Dat} (h : Gs d) : Gb d := h.gd.gb
theorem Gw.gb {d : Dat} (h : Gw d) : Gb d := by
  obtain ⟨x, rfl⟩ := h.st
  exact ⟨h.fi.mono (by decide) (by decide), h.wd, Nat.zero_le _⟩
theorem gb_int {k : Int} (h0 : 0 ≤ k) (h1 : k < 99) : Gb (.int (k - 50)) := by
  have : ∀ i : Fin 99, fineB 1 5 (.int ((i.val : Int) - 50)) = true := by decide +kernel
  have q := fine_of (this ⟨k.toNat, by omega⟩)
  have e : ((k.toNat : Nat) : Int) = k := Int.toNat_of_nonneg h0
  simp only [e] at q
  exact ⟨q.mono (by decide) (by decide), rfl, Nat.zero_le _⟩
theorem pure_noObj {d : Dat} (h : d.pure = true) : d.noObj = true := by
  cases d <;> first | rfl | cases h
theorem Gb.deed {C : Addr} {d : Dat} (h : Gb d) : DeedOk C d := by
  have all : ∀ ds : List Dat, d = .tup ds → ∀ x ∈ ds, x.noObj = true := by
    rintro ds rfl x hx
    have p : pureAll ds = true := h.fi.pu
    rw [pureAll_all] at p
    exact pure_noObj (List.all_eq_true.mp p x hx)
  exact ⟨h.wd, fun x r e => .inl (all _ e x (by simp)), fun k a b c e => all _ e c (by simp)⟩
theorem Gb.len {d : Dat} (h : Gb d) : ∀ ds, d = .lst ds ∨ d = .tup ds → ds.length < 4000 := by
  rintro ds (rfl | rfl)
  · exact Nat.lt_of_le_of_lt h.tp (by decide)
  · exact Nat.lt_of_le_of_lt h.tp (by decide)
/-- the five answers -/
abbrev five (d : Dat) : List Bool := [isWhole d, isName d, areNames d, isWish d, isDeed d]
theorem fine_bools (bs : List Bool) (h : bs.length = 5) : Fine 40 sizeLine (.lst (bs.map .bl)) ∧ (Dat.lst (bs.map .bl)).py.canLay0 = true := by
  refine ⟨(fine_lst (k := 1) (n := 5) (m := 5) (fun d hd => ?_) (by rw [List.length_map, h]; exact Nat.le_refl _)).mono (by decide) (by decide), ?_⟩
  · obtain ⟨b, _, rfl⟩ := List.mem_map.mp hd
    exact fine_bl b
  · match bs, h with
    | [a, b, c, d, e], _ => simp [Dat.py, pyAll, PyData.canLay0, PyData.canLayAll0]
def spLaw (K : PySem.W.Frag) : Sp := fun vs H Q _ => ∃ (a : Addr) (ns : List Int), vs = [.ref a] ∧ SqL K H a (ns.map V.int) ∧ ns.length ≤ 63 ∧ ∀ H', Q (.bl true) H'
/-- a datum with an instance in it -/
structure Git (C : Addr) (e : Dat) : Prop where
  five : five e = [false, false, false, false, false]
  wd : Wd e
  deed : DeedOk C e
  len : ∀ ds, e = .lst ds ∨ e = .tup ds → ds.length < 4000
theorem gate_items (C x : Addr) : ∀ e ∈ ([.obj C x, .lst [.obj C x], .tup [.obj C x], .tup [.str "throw", .obj C x], .tup [.tup [.str "a", .obj C x]], .tup [.str "hand", .obj C x, .str "a", .str "b"]] : List Dat), Git C e := by
  intro e he
  simp only [List.mem_cons, List.not_mem_nil, or_false] at he
  rcases he with rfl | rfl | rfl | rfl | rfl | rfl
  · refine ⟨rfl, rfl, ⟨rfl, fun x r e => (by cases e), fun k a b c e => (by cases e)⟩, fun ds e => ?_⟩
    rcases e with e | e <;> cases e
  · refine ⟨rfl, rfl, ⟨rfl, fun x r e => (by cases e), fun k a b c e => (by cases e)⟩, fun ds e => ?_⟩
    rcases e with e | e <;> cases e
    exact (by decide : 1 < 4000)
  · refine ⟨rfl, rfl, ⟨rfl, fun x r e => (by cases e; exact .inr ⟨_, rfl⟩), fun k a b c e => (by cases e)⟩, fun ds e => ?_⟩
    rcases e with e | e <;> cases e
    exact (by decide : 1 < 4000)
  · refine ⟨?_, rfl, ⟨rfl, fun x r e => (by cases e; exact .inl rfl), fun k a b c e => (by cases e)⟩, fun ds e => ?_⟩
    · first | rfl | kernel_rfl
    rcases e with e | e <;> cases e
    exact (by decide : 2 < 4000)
  · refine ⟨?_, rfl, ⟨rfl, fun x r e => (by cases e; exact .inl rfl), fun k a b c e => (by cases e)⟩, fun ds e => ?_⟩
    · first | rfl | kernel_rfl
    rcases e with e | e <;> cases e
    exact (by decide : 1 < 4000)
  · refine ⟨?_, rfl, ⟨rfl, fun x r e => (by cases e; exact .inl rfl), fun k a b c e => (by cases e; rfl)⟩, fun ds e => ?_⟩
    · first | rfl | kernel_rfl
    rcases e with e | e <;> cases e
    exact (by decide : 4 < 4000)
section
variable {P : Program} {w : World} {K : PySem.W.Frag} {mg : Str → Option Value} {base : Heap}
abbrev s_law : Stmt := top 31
theorem sc_law : FnScope ["script", "bag", "turn", "thing", "some", "one", "said", "found", "due", "gate"] ["script"] (defScope s_law) := ⟨rfl, rfl, rfl, by decide +kernel, rfl, by decide +kernel, by decide +kernel⟩
theorem ok_law {f C fI : Addr} {fd fdI : FuncData} (F : Fun K "law" "law" s_law f fd) (T : Bl mg) (hM : HasMods base) (hG : mg "Gate" = some (.ref C)) (oC : OwnC K C)
    (MG : Mk K C fI) (GI : Fn P w K mg base CX0 4 fI fdI ["self", "states", "doors", "closet", "rules"] (spInit C)) (bI : Binds K fdI ["self", "states", "doors", "closet", "rules"] [])
    (D_is_integer : Def P w K mg base 2 "is_integer" ["thing"] (spB K (fun _ => True) isWhole))
    (D_is_name : Def P w K mg base 2 "is_name" ["thing"] (spB K Wd isName))
    (D_are_names : Def P w K mg base 3 "are_names" ["thing"] (spB K (fun d => Wd d ∧ ∀ ds, d = .lst ds ∨ d = .tup ds → ds.length < 4000) areNames))
    (D_is_wish : Def P w K mg base 5 "is_wish" ["thing"] (spB K Wd isWish))
    (D_is_deed : Def P w K mg base 4 "is_deed" ["thing"] (spB K (DeedOk C) isDeed))
    (D_law_is_whole : Def P w K mg base 2 "_law_is_whole" ["thing"] (spB K (fun _ => True) isWhole))
    (D_law_is_name : Def P w K mg base 2 "_law_is_name" ["thing"] (spB K Wd isName))
    (D_law_are_names : Def P w K mg base 3 "_law_are_names" ["thing"] (spB K Wd areNames))
    (D_law_is_wish : Def P w K mg base 3 "_law_is_wish" ["thing"] (spB K Wd isWish))
    (D_law_is_deed : Def P w K mg base 3 "_law_is_deed" ["thing"] (spB K Wd isDeed))
    (D_law_bag : Def P w K mg base 2 "_law_bag" ["script"] (spBag K))
    (D_law_take : Def P w K mg base 2 "_law_take" ["bag", "many"] spTake)
    (D_law_alike : Def P w K mg base 2 "_law_alike" ["found", "due"] (spAlike K))
    (D_law_odd : Def P w K mg base 4 "_law_odd" ["bag"] (spDraw K Gd))
    (D_law_some_name : Def P w K mg base 4 "_law_some_name" ["bag"] (spDraw K Gw))
    (D_law_drawn_thing : Def P w K mg base 5 "_law_drawn_thing" ["bag"] (spDraw K Gs))
    (D_law_near_one : Def P w K mg base 4 "_law_near_one" ["bag"] (spDraw K Gs))
    (D_law_bent : Def P w K mg base 5 "_law_bent" ["bag", "thing"] (spDraw1 K Gs Gb)) :
    Fn P w K mg base CX0 6 f fd ["script"] (spLaw K) := by
  refine fn_calm F sc_law (fun vs H Q E h => ?_) (fun cdv A outer s H vs Q E hc hr h => ?_)
  · obtain ⟨a, ns, rfl, _⟩ := h
    rfl
  · obtain ⟨a, ns, rfl, hS, hl, k⟩ := h
    have hu64 := hr.units
    have hu110 : (A.deeper (envOfC "law" (defScope s_law) s.heap.objs.size f cdv)).units + 110 < cLine := by
      have := hr.un
      omega
    refine ⟨_, (pss_cons (ps_set (i := 1) sc_law.nd rfl (Or.inl rfl) (pe_def D_law_bag hc (hr.mono (by decide)) (pa_cons (pv 0) pa_nil)))
 (pss_cons (ps_for PassesOwn.never rfl (pi_range1 rfl T.rangeN (pa_cons pe_int pa_nil)) (pg_name (i := 2) sc_law.nd rfl (Or.inl rfl))
  (pss_cons (ps_set (i := 3) sc_law.nd rfl (Or.inl rfl) (pe_def D_law_drawn_thing hc (hr.mono (by decide)) (pa_cons (pv 1) pa_nil)))
 (pss_cons (ps_set (i := 4) sc_law.nd rfl (Or.inl rfl) (pe_lst (pa_cons (pv 3) (pa_cons (pe_def D_law_bent hc (hr.mono (by decide)) (pa_cons (pv 1) (pa_cons (pv 3) pa_nil))) (pa_cons (pe_def D_law_odd hc (hr.mono (by decide)) (pa_cons (pv 1) pa_nil)) (pa_cons (pe_def D_law_some_name hc (hr.mono (by decide)) (pa_cons (pv 1) pa_nil)) (pa_cons (pe_op op_sub (pe_def D_law_take hc (hr.mono (by decide)) (pa_cons (pv 1) (pa_cons pe_int pa_nil))) pe_int) pa_nil)))))))
 (pss_one (ps_for PassesOwn.never rfl (pi_list (pe_op op_cat (pv 4) (pe_lst (pa_cons (pe_def D_law_near_one hc (hr.mono (by decide)) (pa_cons (pv 1) pa_nil)) (pa_cons (pe_def D_law_bent hc (hr.mono (by decide)) (pa_cons (pv 1) (pa_cons (pe_def D_law_near_one hc (hr.mono (by decide)) (pa_cons (pv 1) pa_nil)) pa_nil))) pa_nil))))) (pg_name (i := 5) sc_law.nd rfl (Or.inl rfl))
  (pss_cons (ps_set (i := 6) sc_law.nd rfl (Or.inl rfl) (pe_callB (call_repr hc hM hu110) (by rfl) T.reprN (by decide +kernel) (pa_cons (pv 5) pa_nil)))
 (pss_cons (ps_set (i := 7) sc_law.nd rfl (Or.inl rfl) (pe_lst (pa_cons (pe_def D_is_integer hc (hr.mono (by decide)) (pa_cons (pv 5) pa_nil)) (pa_cons (pe_def D_is_name hc (hr.mono (by decide)) (pa_cons (pv 5) pa_nil)) (pa_cons (pe_def D_are_names hc (hr.mono (by decide)) (pa_cons (pv 5) pa_nil)) (pa_cons (pe_def D_is_wish hc (hr.mono (by decide)) (pa_cons (pv 5) pa_nil)) (pa_cons (pe_def D_is_deed hc (hr.mono (by decide)) (pa_cons (pv 5) pa_nil)) pa_nil)))))))
 (pss_cons (ps_set (i := 8) sc_law.nd rfl (Or.inl rfl) (pe_lst (pa_cons (pe_def D_law_is_whole hc (hr.mono (by decide)) (pa_cons (pv 5) pa_nil)) (pa_cons (pe_def D_law_is_name hc (hr.mono (by decide)) (pa_cons (pv 5) pa_nil)) (pa_cons (pe_def D_law_are_names hc (hr.mono (by decide)) (pa_cons (pv 5) pa_nil)) (pa_cons (pe_def D_law_is_wish hc (hr.mono (by decide)) (pa_cons (pv 5) pa_nil)) (pa_cons (pe_def D_law_is_deed hc (hr.mono (by decide)) (pa_cons (pv 5) pa_nil)) pa_nil)))))))
 (pss_one (ps_if (PW.pt (pw_or (pt_not (pt_val (pe_def D_law_alike hc (hr.mono (by decide)) (pa_cons (pv 7) (pa_cons (pv 8) pa_nil))))) (pw_or1 (pt_cmpR op_ne (pe_callB (call_repr hc hM hu110) (by rfl) T.reprN (by decide +kernel) (pa_cons (pv 5) pa_nil)) (pv 6) (nomark _)))))
  (pss_one (ps_ret pe_bl))
  pss_nil))))))))))
 (pss_cons (ps_set (i := 9) sc_law.nd rfl (Or.inl rfl) (pe_mk MG GI hc (hr.mono (by decide)) rfl hG bI .nil pass0 (pa_mix 9 4 (ds := [.int 1, .lst [.str "a"], .lst [], .lst []]) (by rfl) (by rfl) pa_nil)))
 (pss_cons (ps_for PassesOwn.never rfl (pi_tup (pe_tup (pa_cons (pv 9) (pa_cons (pe_lst (pa_cons (pv 9) pa_nil)) (pa_cons (pe_tup (pa_cons (pv 9) pa_nil)) (pa_cons (pe_tup (pa_cons pe_str (pa_cons (pv 9) pa_nil))) (pa_cons (pe_tup (pa_cons (pe_tup (pa_cons pe_str (pa_cons (pv 9) pa_nil))) pa_nil)) (pa_cons (pe_tup (pa_cons pe_str (pa_cons (pv 9) (pa_cons pe_str (pa_cons pe_str pa_nil))))) pa_nil)))))))) (pg_name (i := 3) sc_law.nd rfl (Or.inl rfl))
  (pss_cons (ps_set (i := 7) sc_law.nd rfl (Or.inl rfl) (pe_lst (pa_cons (pe_def D_is_integer hc (hr.mono (by decide)) (pa_cons (pv 3) pa_nil)) (pa_cons (pe_def D_is_name hc (hr.mono (by decide)) (pa_cons (pv 3) pa_nil)) (pa_cons (pe_def D_are_names hc (hr.mono (by decide)) (pa_cons (pv 3) pa_nil)) (pa_cons (pe_def D_is_wish hc (hr.mono (by decide)) (pa_cons (pv 3) pa_nil)) (pa_cons (pe_def D_is_deed hc (hr.mono (by decide)) (pa_cons (pv 3) pa_nil)) pa_nil)))))))
 (pss_one (ps_if (pt_not (pt_val (pe_def D_law_alike hc (hr.mono (by decide)) (pa_cons (pv 7) (pa_cons (pe_op op_rep (pe_lit (d := .lst [.bl false]) 9 (by rfl) (by rfl)) pe_int) pa_nil)))))
  (pss_one (ps_ret pe_bl))
  pss_nil))))
 (pss_one (ps_ret (pe_and (pe_cmpR op_is_bl (pe_def D_are_names hc (hr.mono (by decide)) (pa_cons (pe_lit (d := .lst []) 9 (by rfl) (by rfl)) pa_nil)) pe_bl (nomark _)) (pe_and (pe_cmpR op_is_bl (pe_def D_are_names hc (hr.mono (by decide)) (pa_cons (pe_lit (d := .tup []) 9 (by rfl) (by rfl)) pa_nil)) pe_bl (nomark _)) (pe_one (pe_cmpR op_is_bl (pe_def D_is_wish hc (hr.mono (by decide)) (pa_cons (pe_lit (d := .tup []) 9 (by rfl) (by rfl)) pa_nil)) pe_bl (nomark _))))))))))), ?_⟩
    refine ⟨_, rfl, a, ns, rfl, hS, hl, fun b l H1 nb nl s1 hb => ?_⟩
    have fr0 := fr_start hb
    generalize (fun y => if y = b then none else H1 y) = F0 at fr0
    refine ⟨20, rfl, by decide, by decide, ?_⟩
    refine for_range (n := 20) (fun i σ H' => ∃ (o2 o3 o4 o5 o6 o7 o8 : Option V) (F' : Hp), σ = [some (.ref a), some (.ref b), o2, o3, o4, o5, o6, o7, o8, none] ∧ Go b F0 H1 F' H')
      ⟨none, none, none, none, none, none, none, F0, rfl, Go.refl fr0⟩ ?_ ?_
    · rintro i σ H2 hi ⟨o2, o3, o4, o5, o6, o7, o8, F2, rfl, g2⟩
      refine ⟨_, rfl, b, F2, rfl, g2.fr, fun v d F3 H3 g3 r3 gs3 => ?_⟩
      -- five things
      refine ⟨_, rfl, _, rfl, _, rfl, b, F3, v, d, rfl, g3.fr, r3, gs3, fun v4 d4 F4 H4 g4 r4 gb4 => ?_⟩
      refine ⟨_, rfl, b, F4, rfl, g4.fr, fun v5 d5 F5 H5 g5 r5 gd5 => ?_⟩
      refine ⟨_, rfl, b, F5, rfl, g5.fr, fun v6 d6 F6 H6 g6 r6 gw6 => ?_⟩
      refine ⟨_, rfl, b, 99, rfl, g6.bag, by decide, by decide, fun kk H7 k0 k1 sb7 bt7 => ?_⟩
      have g7 := g6.took sb7 bt7
      refine ⟨_, _, rfl, rfl, by show 5 ≤ sizeLine; decide, fun p8 hp8 => ?_⟩
      obtain ⟨F8, g8, s8, at8⟩ := g7.put' (o := .lst [v, v4, v5, v6, .int (kk - 50)]) hp8
      -- two more
      refine ⟨_, rfl, _, rfl, b, F8, rfl, g8.fr, fun v9 d9 F9 H9 g9 r9 gs9 => ?_⟩
      refine ⟨_, rfl, _, rfl, b, F9, rfl, g9.fr, fun va da Fa Ha ga ra gsa => ?_⟩
      refine ⟨b, Fa, va, da, rfl, ga.fr, ra, gsa, fun vb db Fb Hb gb rb gbb => ?_⟩
      refine ⟨by show 2 ≤ sizeLine; decide, fun pc hpc => ?_⟩
      obtain ⟨Fc, gc, sc, atc⟩ := gb.put' (o := .lst [v9, vb]) hpc
      have at8c := sc _ _ (gb.up _ _ (ga.up _ _ (g9.up _ _ at8)))
      refine ⟨p8, pc, _, _, rfl, rfl, gc.same _ _ at8c, upd_same, by show 5 + 2 ≤ sizeLine; decide, fun pd hpd => ?_⟩
      obtain ⟨Fd, gd, sd, atd⟩ := gc.put' (o := .lst ([v, v4, v5, v6, .int (kk - 50)] ++ [v9, vb])) hpd
      have gz := g2.trans (g3.trans (g4.trans (g5.trans (g8.trans (g9.trans (ga.trans gd))))))
      have u9 : Same F9 Fd := ga.up.trans (gb.up.trans (sc.trans sd))
      have u6 : Same F6 Fd := s8.trans (g9.up.trans u9)
      have u5 : Same F5 Fd := g6.up.trans u6
      have u4 : Same F4 Fd := g5.up.trans u5
      have u3 : Same F3 Fd := g4.up.trans u4
      have all : RepAll K Fd ([v, v4, v5, v6, .int (kk - 50)] ++ [v9, vb]) [d, d4, d5, d6, .int (kk - 50), d9, db] :=
        ⟨_, _, rfl, Rep.mono u3 _ r3, _, _, rfl, Rep.mono u4 _ r4, _, _, rfl, Rep.mono u5 _ r5, _, _, rfl, Rep.mono u6 _ r6, _, _, rfl, rfl, _, _, rfl, Rep.mono u9 _ r9, _, _, rfl, Rep.mono (sc.trans sd) _ rb, rfl⟩
      have good : ∀ e ∈ [d, d4, d5, d6, .int (kk - 50), d9, db], Gb e := by
        intro e he
        simp only [List.mem_cons, List.not_mem_nil, or_false] at he
        rcases he with rfl | rfl | rfl | rfl | rfl | rfl | rfl
        · exact gs3.gb
        · exact gb4
        · exact gd5.gb
        · exact gw6.gb
        · exact gb_int k0 k1
        · exact gs9.gb
        · exact gbb
      clear g3 g4 g5 g6 g7 g8 g9 ga gb gc gd
      generalize ([v, v4, v5, v6, .int (kk - 50)] ++ [v9, vb]) = xs at all atd gz
      generalize [d, d4, d5, d6, Dat.int (kk - 50), d9, db] = ds at all good
      refine ⟨pd, rfl, ⟨_, SqL.of upd_same⟩, for_list (K := K) (a := pd) (xs := xs) (fun j σ H' => ∃ (o5 o6 o7 o8 : Option V), σ = [some (.ref a), some (.ref b), some (.int (0 + (i : Nat))), some v, some (.ref p8), o5, o6, o7, o8, none] ∧ Go b F0 H1 Fd H')
        ⟨_, _, _, _, rfl, gz⟩ (fun j σ H' _ h => ?_) ?_ ?_⟩
      · obtain ⟨_, _, _, _, _, g⟩ := h
        exact SqL.of (g.same _ _ atd)
      · rintro j x σ He hx ⟨o5, o6, o7, o8, rfl, ge⟩
        obtain ⟨dx, hdx, rx⟩ := all.get hx
        have gx := good dx (List.mem_of_getElem? hdx)
        have rxe := Rep.mono ge.same _ rx
        have fx : Fine 100 sizeLine dx := gx.fi.mono (by decide) (by decide)
        refine ⟨_, rfl, x, dx, rfl, rxe, fx, ?_⟩
        refine ⟨_, rfl, x, dx, rfl, rxe, trivial, fun E1 t1 => ⟨_, rfl, x, dx, rfl, Rep.mono t1 _ rxe, gx.wd, fun E2 t2 => ⟨_, rfl, x, dx, rfl, Rep.mono (t1.trans t2) _ rxe, ⟨gx.wd, gx.len⟩, fun E3 t3 => ?_⟩⟩⟩
        have t13 := (t1.trans t2).trans t3
        refine ⟨_, rfl, x, dx, rfl, Rep.mono t13 _ rxe, gx.wd, fun E4 t4 => ⟨_, rfl, x, dx, rfl, Rep.mono (t13.trans t4) _ rxe, gx.deed, fun E5 t5 => ⟨by show 5 ≤ sizeLine; decide, fun q1 hq1 => ?_⟩⟩⟩
        have t15 := (t13.trans t4).trans t5
        have t16 := t15.trans (same_upd (o := .lst ((five dx).map .bl)) hq1)
        have at1 : (upd E5 q1 (.lst ((five dx).map .bl))) q1 = some (.lst ((five dx).map .bl)) := upd_same
        refine ⟨_, rfl, x, dx, rfl, Rep.mono t16 _ rxe, trivial, fun J1 (w1 : Same (upd E5 q1 (.lst ((five dx).map .bl))) J1) => ⟨_, rfl, x, dx, rfl, Rep.mono (t16.trans w1) _ rxe, gx.wd, fun J2 w2 => ⟨_, rfl, x, dx, rfl, Rep.mono ((t16.trans w1).trans w2) _ rxe, gx.wd, fun J3 w3 => ?_⟩⟩⟩
        have w13 := (w1.trans w2).trans w3
        refine ⟨_, rfl, x, dx, rfl, Rep.mono (t16.trans w13) _ rxe, gx.wd, fun J4 w4 => ⟨_, rfl, x, dx, rfl, Rep.mono (t16.trans (w13.trans w4)) _ rxe, gx.wd, fun J5 w5 => ⟨by show 5 ≤ sizeLine; decide, fun q2 hq2 => ?_⟩⟩⟩
        have w16 := ((w13.trans w4).trans w5).trans (same_upd (o := .lst ((five dx).map .bl)) hq2)
        have at2 : (upd J5 q2 (.lst ((five dx).map .bl))) q2 = some (.lst ((five dx).map .bl)) := upd_same
        obtain ⟨fb, lb⟩ := fine_bools (five dx) rfl
        refine ⟨_, rfl, _, rfl, .ref q1, .ref q2, .lst ((five dx).map .bl), rfl, ⟨q1, _, rfl, w16 _ _ at1, RepAll.of_bls (five dx)⟩, ⟨q2, _, rfl, at2, RepAll.of_bls (five dx)⟩, lb, fb, _, rfl, ?_⟩
        refine iteF ?_
        have t17 := t16.trans w16
        refine ⟨_, rfl, x, dx, rfl, Rep.mono t17 _ rxe, fx, _, rfl, rfl, _, rfl, ?_⟩
        rw [show (decide (V.str dx.py.shown = V.str dx.py.shown)) = true from decide_eq_true rfl]
        refine iteF ?_
        exact ⟨_, _, _, _, rfl, ge.grow t17⟩
      · rintro σ H' ⟨o5, o6, o7, o8, rfl, g⟩
        exact ⟨_, _, _, _, _, _, _, Fd, rfl, g⟩
    · rintro σ H2 ⟨o2, o3, o4, o5, o6, o7, o8, F2, rfl, g2⟩
      clear g2
      intro vs N H3 n3 r3
      obtain ⟨v1, _, rfl, h1, v2, _, rfl, h2, v3, _, rfl, h3, v4, _, rfl, h4, rfl⟩ := r3
      obtain rfl : v1 = .int 1 := h1
      obtain ⟨d1, ys1, rfl, e1, y, _, rfl, hy, rfl⟩ := h2
      obtain rfl : y = .str "a" := hy
      obtain ⟨c1, ys2, rfl, e2, rfl⟩ := h3
      obtain ⟨r1, ys3, rfl, e3, rfl⟩ := h4
      intro x dx nx ndx nex
      have s3 : Same H3 (upd (upd H3 dx (.own x)) x (.ins C dx [])) := fun y o e => by
        rw [upd_ne (ne_of_none e nx), upd_ne (ne_of_none e ndx)]
        exact e
      refine ⟨x, dx, d1, c1, r1, rfl, upd_same, s3 _ _ (n3.sub _ _ e1), s3 _ _ (n3.sub _ _ e2), s3 _ _ (n3.sub _ _ e3), fun H4 fs hx4 => ⟨rfl, ?_⟩⟩
      refine ⟨_, rfl, _, rfl, by show 1 ≤ sizeLine; decide, fun p1 hp1 => ?_⟩
      have t1 := same_upd (o := .lst [V.ref x]) hp1
      have a1 : (upd H4 p1 (.lst [V.ref x])) p1 = some (.lst [V.ref x]) := upd_same
      generalize upd H4 p1 (.lst [V.ref x]) = H5 at t1 a1
      refine ⟨_, rfl, by show 1 ≤ sizeLine; decide, fun p2 hp2 => ?_⟩
      have t2 := same_upd (o := .tup [V.ref x]) hp2
      have a2 : (upd H5 p2 (.tup [V.ref x])) p2 = some (.tup [V.ref x]) := upd_same
      generalize upd H5 p2 (.tup [V.ref x]) = H6 at t2 a2
      refine ⟨_, rfl, by show 2 ≤ sizeLine; decide, fun p3 hp3 => ?_⟩
      have t3 := same_upd (o := .tup [V.str "throw", V.ref x]) hp3
      have a3 : (upd H6 p3 (.tup [V.str "throw", V.ref x])) p3 = some (.tup [V.str "throw", V.ref x]) := upd_same
      generalize upd H6 p3 (.tup [V.str "throw", V.ref x]) = H7 at t3 a3
      refine ⟨_, rfl, by show 2 ≤ sizeLine; decide, fun p4 hp4 => ?_⟩
      have t4 := same_upd (o := .tup [V.str "a", V.ref x]) hp4
      have a4 : (upd H7 p4 (.tup [V.str "a", V.ref x])) p4 = some (.tup [V.str "a", V.ref x]) := upd_same
      generalize upd H7 p4 (.tup [V.str "a", V.ref x]) = H8 at t4 a4
      refine ⟨by show 1 ≤ sizeLine; decide, fun p5 hp5 => ?_⟩
      have t5 := same_upd (o := .tup [V.ref p4]) hp5
      have a5 : (upd H8 p5 (.tup [V.ref p4])) p5 = some (.tup [V.ref p4]) := upd_same
      generalize upd H8 p5 (.tup [V.ref p4]) = H9 at t5 a5
      refine ⟨_, rfl, by show 4 ≤ sizeLine; decide, fun p6 hp6 => ?_⟩
      have t6 := same_upd (o := .tup [V.str "hand", V.ref x, V.str "a", V.str "b"]) hp6
      have a6 : (upd H9 p6 (.tup [V.str "hand", V.ref x, V.str "a", V.str "b"])) p6 = some (.tup [V.str "hand", V.ref x, V.str "a", V.str "b"]) := upd_same
      generalize upd H9 p6 (.tup [V.str "hand", V.ref x, V.str "a", V.str "b"]) = Ha at t6 a6
      refine ⟨by show 6 ≤ sizeLine; decide, fun p7 hp7 => ?_⟩
      have t7 := same_upd (o := .tup [V.ref x, V.ref p1, V.ref p2, V.ref p3, V.ref p5, V.ref p6]) hp7
      have a7 : (upd Ha p7 (.tup [V.ref x, V.ref p1, V.ref p2, V.ref p3, V.ref p5, V.ref p6])) p7 = some (.tup [V.ref x, V.ref p1, V.ref p2, V.ref p3, V.ref p5, V.ref p6]) := upd_same
      generalize upd Ha p7 (.tup [V.ref x, V.ref p1, V.ref p2, V.ref p3, V.ref p5, V.ref p6]) = Hb at t7 a7
      have u6 := t6.trans t7
      have u5 := t5.trans u6
      have u4 := t4.trans u5
      have u3 := t3.trans u4
      have u2 := t2.trans u3
      have u1 := t1.trans u2
      have ob : Rep K Hb (.ref x) (.obj C x) := ⟨rfl, oC, dx, fs, u1 _ _ hx4⟩
      have all : RepAll K Hb [V.ref x, V.ref p1, V.ref p2, V.ref p3, V.ref p5, V.ref p6]
          [.obj C x, .lst [.obj C x], .tup [.obj C x], .tup [.str "throw", .obj C x], .tup [.tup [.str "a", .obj C x]], .tup [.str "hand", .obj C x, .str "a", .str "b"]] :=
        ⟨_, _, rfl, ob, _, _, rfl, ⟨p1, _, rfl, u2 _ _ a1, _, _, rfl, ob, rfl⟩, _, _, rfl, ⟨p2, _, rfl, u3 _ _ a2, _, _, rfl, ob, rfl⟩,
          _, _, rfl, ⟨p3, _, rfl, u4 _ _ a3, _, _, rfl, rfl, _, _, rfl, ob, rfl⟩, _, _, rfl, ⟨p5, _, rfl, u6 _ _ a5, _, _, rfl, ⟨p4, _, rfl, u5 _ _ a4, _, _, rfl, rfl, _, _, rfl, ob, rfl⟩, rfl⟩,
          _, _, rfl, ⟨p6, _, rfl, t7 _ _ a6, _, _, rfl, rfl, _, _, rfl, ob, _, _, rfl, rfl, _, _, rfl, rfl, rfl⟩, rfl⟩
      have good := gate_items C x
      generalize [V.ref x, V.ref p1, V.ref p2, V.ref p3, V.ref p5, V.ref p6] = xs at all a7
      generalize [Dat.obj C x, .lst [.obj C x], .tup [.obj C x], .tup [.str "throw", .obj C x], .tup [.tup [.str "a", .obj C x]], .tup [.str "hand", .obj C x, .str "a", .str "b"]] = ds at all good
      refine ⟨p7, rfl, ⟨_, SqT.of a7⟩, for_tup (K := K) (a := p7) (xs := xs) (fun j σ H' => ∃ (o3 o7 : Option V), σ = [some (.ref a), some (.ref b), o2, o3, o4, o5, o6, o7, o8, some (.ref x)] ∧ Same Hb H')
        ⟨_, _, rfl, .refl _⟩ (fun j σ H' _ h => ?_) ?_ ?_⟩
      · obtain ⟨_, _, _, g⟩ := h
        exact SqT.of (g _ _ a7)
      · rintro j y σ He hy ⟨o3, o7, rfl, ge⟩
        obtain ⟨dy, hdy, ry⟩ := all.get hy
        have gx := good dy (List.mem_of_getElem? hdy)
        have rye := Rep.mono ge _ ry
        refine ⟨_, rfl, y, dy, rfl, rye, trivial, fun E1 t1 => ⟨_, rfl, y, dy, rfl, Rep.mono t1 _ rye, gx.wd, fun E2 t2 => ⟨_, rfl, y, dy, rfl, Rep.mono (t1.trans t2) _ rye, ⟨gx.wd, gx.len⟩, fun E3 t3 => ?_⟩⟩⟩
        have t13 := (t1.trans t2).trans t3
        refine ⟨_, rfl, y, dy, rfl, Rep.mono t13 _ rye, gx.wd, fun E4 t4 => ⟨_, rfl, y, dy, rfl, Rep.mono (t13.trans t4) _ rye, gx.deed, fun E5 t5 => ⟨by show 5 ≤ sizeLine; decide, fun q1 hq1 => ?_⟩⟩⟩
        have t15 := (t13.trans t4).trans t5
        have ef : ([V.bl (isWhole dy), V.bl (isName dy), V.bl (areNames dy), V.bl (isWish dy), V.bl (isDeed dy)] : List V) = [false, false, false, false, false].map V.bl := congrArg (List.map V.bl) gx.five
        rw [ef]
        have t16 := t15.trans (same_upd (o := .lst ([false, false, false, false, false].map V.bl)) hq1)
        have at1 : (upd E5 q1 (.lst ([false, false, false, false, false].map V.bl))) q1 = some (.lst ([false, false, false, false, false].map V.bl)) := upd_same
        generalize upd E5 q1 (.lst ([false, false, false, false, false].map V.bl)) = J0 at t16 at1
        refine ⟨_, rfl, ?_⟩
        intro w1 N1 J1 m1 q2
        obtain ⟨pb, xb, rfl, hb1, hxb⟩ := Rep.mono m1.sub _ q2
        obtain ⟨z, _, rfl, hz, rfl⟩ := hxb
        obtain rfl : z = .bl false := hz
        refine ⟨pb, 5, _, rfl, rfl, hb1, by decide, by decide, by decide, fun q3 hq3 => ?_⟩
        have s6 := m1.old.trans (same_upd (o := .lst ([false, false, false, false, false].map V.bl)) hq3)
        have at3 : (upd J1 q3 (.lst ([false, false, false, false, false].map V.bl))) q3 = some (.lst ([false, false, false, false, false].map V.bl)) := upd_same
        obtain ⟨fb, lb⟩ := fine_bools [false, false, false, false, false] rfl
        refine ⟨.ref q1, .ref q3, .lst ([false, false, false, false, false].map .bl), rfl, ⟨q1, _, rfl, s6 _ _ at1, RepAll.of_bls _⟩, ⟨q3, _, rfl, at3, RepAll.of_bls _⟩, lb, fb, _, rfl, ?_⟩
        refine iteF ?_
        exact ⟨_, _, rfl, ge.trans (t16.trans s6)⟩
      · rintro σ H' ⟨o3, o7, rfl, g⟩
        have i0 : areNames (.lst []) = true := by decide +kernel
        have i1 : areNames (.tup []) = true := by decide +kernel
        have i2 : isWish (.tup []) = false := by decide +kernel
        intro w1 N1 J1 m1 q1
        refine ⟨w1, .lst [], rfl, Rep.mono m1.sub _ q1, ⟨by decide +kernel, fun ds e => ?_⟩, fun J2 z2 => ?_⟩
        · rcases e with e | e <;> cases e
          decide
        rw [i0]
        refine ⟨_, _, rfl, rfl, _, rfl, ?_⟩
        refine iteT ?_
        intro w2 N2 J3 m2 q2
        refine ⟨w2, .tup [], rfl, Rep.mono m2.sub _ q2, ⟨by decide +kernel, fun ds e => ?_⟩, fun J4 z4 => ?_⟩
        · rcases e with e | e <;> cases e
          decide
        rw [i1]
        refine ⟨_, _, rfl, rfl, _, rfl, ?_⟩
        refine iteT ?_
        intro w3 N3 J5 m3 q3
        refine ⟨w3, .tup [], rfl, Rep.mono m3.sub _ q3, by decide +kernel, fun J6 z6 => ?_⟩
        rw [i2]
        exact ⟨_, _, rfl, rfl, k _⟩
end
end K

set_option Elab.async false
set_option linter.all false
set_option maxRecDepth 100000
set_option maxHeartbeats 8000000
namespace K
open PySem PySem.Spec PyProof.Rows L2 G D L S C Sx Kx Ex Lt
open Fz hiding Fr
/-- the written part holds a def -/
def HasDef (K : PySem.W.Frag) (x : Str) (st : Stmt) : Prop := ∃ (f : Addr) (oc : Value) (od an : Option Addr) (osl : Array (Option Value)) (kV doc pm cdv ct : Value),
  PySem.W.nsIn K mainGlobals x = some (some (.ref f)) ∧ K.lookup f = some ⟨oc, od, .func (PySem.W.fnOf x x (defArgs st) (defBody st) (defScope st) .none kV doc pm an cdv ct), osl⟩ ∧
  PySem.W.codeIn K cdv x = true ∧ PySem.W.keepIn K (.ref f) = true
theorem hasDef {K : PySem.W.Frag} {x : Str} {st : Stmt} {f : Addr} {oc : Value} {od an : Option Addr} {osl : Array (Option Value)} {kV doc pm cdv ct : Value}
    (a : PySem.W.nsIn K mainGlobals x = some (some (.ref f))) (l : K.lookup f = some ⟨oc, od, .func (PySem.W.fnOf x x (defArgs st) (defBody st) (defScope st) .none kV doc pm an cdv ct), osl⟩)
    (c : PySem.W.codeIn K cdv x = true) (k : PySem.W.keepIn K (.ref f) = true) : HasDef K x st := ⟨f, oc, od, an, osl, kV, doc, pm, cdv, ct, a, l, c, k⟩
/-- a class of the written part holds a method -/
def HasMet (K : PySem.W.Frag) (C : Addr) (x q : Str) (st : Stmt) : Prop := ∃ (f : Addr) (oc : Value) (od an : Option Addr) (osl : Array (Option Value)) (kV doc pm cdv ct : Value),
  PySem.W.findIn K (.ref C) x = some (some (.ref f)) ∧ PySem.W.isFn K (.ref f) = true ∧ K.lookup f = some ⟨oc, od, .func (PySem.W.fnOf x q (defArgs st) (defBody st) (defScope st) .none kV doc pm an cdv ct), osl⟩ ∧
  PySem.W.codeIn K cdv q = true ∧ PySem.W.keepIn K (.ref f) = true
theorem hasMet {K : PySem.W.Frag} {C : Addr} {x q : Str} {st : Stmt} {f : Addr} {oc : Value} {od an : Option Addr} {osl : Array (Option Value)} {kV doc pm cdv ct : Value}
    (a : PySem.W.findIn K (.ref C) x = some (some (.ref f))) (i : PySem.W.isFn K (.ref f) = true) (l : K.lookup f = some ⟨oc, od, .func (PySem.W.fnOf x q (defArgs st) (defBody st) (defScope st) .none kV doc pm an cdv ct), osl⟩)
    (c : PySem.W.codeIn K cdv q = true) (k : PySem.W.keepIn K (.ref f) = true) : HasMet K C x q st := ⟨f, oc, od, an, osl, kV, doc, pm, cdv, ct, a, i, l, c, k⟩
theorem kit_own {K : PySem.W.Frag} {C : Addr} {T : String} (m : PySem.W.kitMeta T = true) (h : PySem.W.subIn K (.ref C) (.type T) = some false) : PySem.W.kitOne K (.ref C) (.type T) = some false := by
  unfold PySem.W.kitOne
  rw [if_neg (by simp)]
  unfold PySem.W.kitCls
  simp only
  rw [if_pos m, h]
theorem kit_of_own {K : PySem.W.Frag} {C : Addr} {T : String} (i : PySem.W.isClsIn K C = true) (t : PySem.W.typeIn K (.ref C) = some (.type "type")) (h : PySem.W.subIn K (.type T) (.ref C) = some false) :
    PySem.W.kitOne K (.type T) (.ref C) = some false := by
  unfold PySem.W.kitOne
  rw [if_neg (by simp)]
  unfold PySem.W.kitCls
  simp only
  rw [if_pos, h]
  rw [show (PySem.W.clsIn K C).isSome = true from i, t]
  rfl
theorem all_mk {P : Program} {w : World} {K : PySem.W.Frag} {h : Heap} {mg : Str → Option Value} {fa C : Addr} (X : K.In h) (G : h.Ns mainGlobals mg) (hfa : mg "law" = some (.ref fa))
    (h_is_integer : HasDef K "is_integer" s_is_integer)
    (h_is_name : HasDef K "is_name" s_is_name)
    (h_are_names : HasDef K "are_names" s_are_names)
    (h_is_pair : HasDef K "is_pair" s_is_pair)
    (h_are_pairs_of_names : HasDef K "are_pairs_of_names" s_are_pairs_of_names)
    (h_is_given : HasDef K "is_given" s_is_given)
    (h_is_wish : HasDef K "is_wish" s_is_wish)
    (h_is_deed : HasDef K "is_deed" s_is_deed)
    (h_law_bag : HasDef K "_law_bag" s_law_bag)
    (h_law_take : HasDef K "_law_take" s_law_take)
    (h_law_one : HasDef K "_law_one" s_law_one)
    (h_law_alike : HasDef K "_law_alike" s_law_alike)
    (h_law_is_whole : HasDef K "_law_is_whole" s_law_is_whole)
    (h_law_is_name : HasDef K "_law_is_name" s_law_is_name)
    (h_law_are_names : HasDef K "_law_are_names" s_law_are_names)
    (h_law_odd : HasDef K "_law_odd" s_law_odd)
    (h_law_is_deed : HasDef K "_law_is_deed" s_law_is_deed)
    (h_law_is_wish : HasDef K "_law_is_wish" s_law_is_wish)
    (h_law_some_name : HasDef K "_law_some_name" s_law_some_name)
    (h_law_drawn_thing : HasDef K "_law_drawn_thing" s_law_drawn_thing)
    (h_law_near_one : HasDef K "_law_near_one" s_law_near_one)
    (h_law_bent : HasDef K "_law_bent" s_law_bent)
    (h_law : HasDef K "law" s_law)
    (aC : PySem.W.nsIn K mainGlobals "Gate" = some (some (.ref C))) (hI : HasMet K C "__init__" "Gate.__init__" s_Gate___init__) (hE : HasMet K C "__eq__" "Gate.__eq__" s_Gate___eq__)
    (mk : PySem.W.makesIn K C = true) (kc : PySem.W.keepIn K (.ref C) = true)
    (oC : OwnC K C) (ks : PySem.W.kitOne K (.type "str") (.ref C) = some false)
    (nf : ∀ T ∈ ["NoneType", "bool", "int", "str", "list", "tuple", "dict"], PySem.W.notFirst K C (.type T) = true) (nfo : PySem.W.notFirst K C (.ref C) = true)
    (n1 : PySem.W.findIn K (.ref C) "_states" = some none) (n2 : PySem.W.findIn K (.ref C) "_doors" = some none) (n3 : PySem.W.findIn K (.ref C) "_closet" = some none) (n4 : PySem.W.findIn K (.ref C) "_rules" = some none)
    (z_len : PySem.W.nsIn K mainGlobals "len" = some none)
    (z_isinstance : PySem.W.nsIn K mainGlobals "isinstance" = some none)
    (z_int : PySem.W.nsIn K mainGlobals "int" = some none)
    (z_str : PySem.W.nsIn K mainGlobals "str" = some none)
    (z_bool : PySem.W.nsIn K mainGlobals "bool" = some none)
    (z_list : PySem.W.nsIn K mainGlobals "list" = some none)
    (z_tuple : PySem.W.nsIn K mainGlobals "tuple" = some none)
    (z_dict : PySem.W.nsIn K mainGlobals "dict" = some none)
    (z_set : PySem.W.nsIn K mainGlobals "set" = some none)
    (z_abs : PySem.W.nsIn K mainGlobals "abs" = some none)
    (z_repr : PySem.W.nsIn K mainGlobals "repr" = some none)
    (z_sorted : PySem.W.nsIn K mainGlobals "sorted" = some none)
    (z_all : PySem.W.nsIn K mainGlobals "all" = some none)
    (z_range : PySem.W.nsIn K mainGlobals "range" = some none)
    (z_zip : PySem.W.nsIn K mainGlobals "zip" = some none)
    (z_enumerate : PySem.W.nsIn K mainGlobals "enumerate" = some none)
    (z_min : PySem.W.nsIn K mainGlobals "min" = some none)
    : ∃ fd : FuncData, (∀ (s : Shared) (v : Value), BindsTo s fd ⟨[v], []⟩ [("script", v)]) ∧ ∀ base : Heap, K.In base → base.Ns mainGlobals mg → HasMods base → Fn P w K mg base CX0 6 fa fd ["script"] (spLaw K) := by
  have T : Bl mg := ⟨PySem.W.mg_none_of X G z_len, PySem.W.mg_none_of X G z_isinstance, PySem.W.mg_none_of X G z_int, PySem.W.mg_none_of X G z_str, PySem.W.mg_none_of X G z_bool, PySem.W.mg_none_of X G z_list, PySem.W.mg_none_of X G z_tuple, PySem.W.mg_none_of X G z_dict, PySem.W.mg_none_of X G z_set, PySem.W.mg_none_of X G z_abs, PySem.W.mg_none_of X G z_repr, PySem.W.mg_none_of X G z_sorted, PySem.W.mg_none_of X G z_all, PySem.W.mg_none_of X G z_range, PySem.W.mg_none_of X G z_zip, PySem.W.mg_none_of X G z_enumerate, PySem.W.mg_none_of X G z_min⟩
  have hG := PySem.W.mg_of X G aC
  obtain ⟨f_is_integer, _, _, _, _, _, _, _, _, _, a_is_integer, l_is_integer, c_is_integer, k_is_integer⟩ := h_is_integer
  have F_is_integer := fun_mk (st := s_is_integer) l_is_integer c_is_integer k_is_integer
  have b_is_integer := F_is_integer.binds (ps := ["thing"]) fun _ _ _ _ _ _ us hl => match us, hl with | [_], _ => rfl
  have m_is_integer := PySem.W.mg_of X G a_is_integer
  obtain ⟨f_is_name, _, _, _, _, _, _, _, _, _, a_is_name, l_is_name, c_is_name, k_is_name⟩ := h_is_name
  have F_is_name := fun_mk (st := s_is_name) l_is_name c_is_name k_is_name
  have b_is_name := F_is_name.binds (ps := ["thing"]) fun _ _ _ _ _ _ us hl => match us, hl with | [_], _ => rfl
  have m_is_name := PySem.W.mg_of X G a_is_name
  obtain ⟨f_are_names, _, _, _, _, _, _, _, _, _, a_are_names, l_are_names, c_are_names, k_are_names⟩ := h_are_names
  have F_are_names := fun_mk (st := s_are_names) l_are_names c_are_names k_are_names
  have b_are_names := F_are_names.binds (ps := ["thing"]) fun _ _ _ _ _ _ us hl => match us, hl with | [_], _ => rfl
  have m_are_names := PySem.W.mg_of X G a_are_names
  obtain ⟨f_is_pair, _, _, _, _, _, _, _, _, _, a_is_pair, l_is_pair, c_is_pair, k_is_pair⟩ := h_is_pair
  have F_is_pair := fun_mk (st := s_is_pair) l_is_pair c_is_pair k_is_pair
  have b_is_pair := F_is_pair.binds (ps := ["thing"]) fun _ _ _ _ _ _ us hl => match us, hl with | [_], _ => rfl
  have m_is_pair := PySem.W.mg_of X G a_is_pair
  obtain ⟨f_are_pairs_of_names, _, _, _, _, _, _, _, _, _, a_are_pairs_of_names, l_are_pairs_of_names, c_are_pairs_of_names, k_are_pairs_of_names⟩ := h_are_pairs_of_names
  have F_are_pairs_of_names := fun_mk (st := s_are_pairs_of_names) l_are_pairs_of_names c_are_pairs_of_names k_are_pairs_of_names
  have b_are_pairs_of_names := F_are_pairs_of_names.binds (ps := ["thing"]) fun _ _ _ _ _ _ us hl => match us, hl with | [_], _ => rfl
  have m_are_pairs_of_names := PySem.W.mg_of X G a_are_pairs_of_names
  obtain ⟨f_is_given, _, _, _, _, _, _, _, _, _, a_is_given, l_is_given, c_is_given, k_is_given⟩ := h_is_given
  have F_is_given := fun_mk (st := s_is_given) l_is_given c_is_given k_is_given
  have b_is_given := F_is_given.binds (ps := ["thing"]) fun _ _ _ _ _ _ us hl => match us, hl with | [_], _ => rfl
  have m_is_given := PySem.W.mg_of X G a_is_given
  obtain ⟨f_is_wish, _, _, _, _, _, _, _, _, _, a_is_wish, l_is_wish, c_is_wish, k_is_wish⟩ := h_is_wish
  have F_is_wish := fun_mk (st := s_is_wish) l_is_wish c_is_wish k_is_wish
  have b_is_wish := F_is_wish.binds (ps := ["thing"]) fun _ _ _ _ _ _ us hl => match us, hl with | [_], _ => rfl
  have m_is_wish := PySem.W.mg_of X G a_is_wish
  obtain ⟨f_is_deed, _, _, _, _, _, _, _, _, _, a_is_deed, l_is_deed, c_is_deed, k_is_deed⟩ := h_is_deed
  have F_is_deed := fun_mk (st := s_is_deed) l_is_deed c_is_deed k_is_deed
  have b_is_deed := F_is_deed.binds (ps := ["thing"]) fun _ _ _ _ _ _ us hl => match us, hl with | [_], _ => rfl
  have m_is_deed := PySem.W.mg_of X G a_is_deed
  obtain ⟨f_law_bag, _, _, _, _, _, _, _, _, _, a_law_bag, l_law_bag, c_law_bag, k_law_bag⟩ := h_law_bag
  have F_law_bag := fun_mk (st := s_law_bag) l_law_bag c_law_bag k_law_bag
  have b_law_bag := F_law_bag.binds (ps := ["script"]) fun _ _ _ _ _ _ us hl => match us, hl with | [_], _ => rfl
  have m_law_bag := PySem.W.mg_of X G a_law_bag
  obtain ⟨f_law_take, _, _, _, _, _, _, _, _, _, a_law_take, l_law_take, c_law_take, k_law_take⟩ := h_law_take
  have F_law_take := fun_mk (st := s_law_take) l_law_take c_law_take k_law_take
  have b_law_take := F_law_take.binds (ps := ["bag", "many"]) fun _ _ _ _ _ _ us hl => match us, hl with | [_, _], _ => rfl
  have m_law_take := PySem.W.mg_of X G a_law_take
  obtain ⟨f_law_one, _, _, _, _, _, _, _, _, _, a_law_one, l_law_one, c_law_one, k_law_one⟩ := h_law_one
  have F_law_one := fun_mk (st := s_law_one) l_law_one c_law_one k_law_one
  have b_law_one := F_law_one.binds (ps := ["bag", "things"]) fun _ _ _ _ _ _ us hl => match us, hl with | [_, _], _ => rfl
  have m_law_one := PySem.W.mg_of X G a_law_one
  obtain ⟨f_law_alike, _, _, _, _, _, _, _, _, _, a_law_alike, l_law_alike, c_law_alike, k_law_alike⟩ := h_law_alike
  have F_law_alike := fun_mk (st := s_law_alike) l_law_alike c_law_alike k_law_alike
  have b_law_alike := F_law_alike.binds (ps := ["found", "due"]) fun _ _ _ _ _ _ us hl => match us, hl with | [_, _], _ => rfl
  have m_law_alike := PySem.W.mg_of X G a_law_alike
  obtain ⟨f_law_is_whole, _, _, _, _, _, _, _, _, _, a_law_is_whole, l_law_is_whole, c_law_is_whole, k_law_is_whole⟩ := h_law_is_whole
  have F_law_is_whole := fun_mk (st := s_law_is_whole) l_law_is_whole c_law_is_whole k_law_is_whole
  have b_law_is_whole := F_law_is_whole.binds (ps := ["thing"]) fun _ _ _ _ _ _ us hl => match us, hl with | [_], _ => rfl
  have m_law_is_whole := PySem.W.mg_of X G a_law_is_whole
  obtain ⟨f_law_is_name, _, _, _, _, _, _, _, _, _, a_law_is_name, l_law_is_name, c_law_is_name, k_law_is_name⟩ := h_law_is_name
  have F_law_is_name := fun_mk (st := s_law_is_name) l_law_is_name c_law_is_name k_law_is_name
  have b_law_is_name := F_law_is_name.binds (ps := ["thing"]) fun _ _ _ _ _ _ us hl => match us, hl with | [_], _ => rfl
  have m_law_is_name := PySem.W.mg_of X G a_law_is_name
  obtain ⟨f_law_are_names, _, _, _, _, _, _, _, _, _, a_law_are_names, l_law_are_names, c_law_are_names, k_law_are_names⟩ := h_law_are_names
  have F_law_are_names := fun_mk (st := s_law_are_names) l_law_are_names c_law_are_names k_law_are_names
  have b_law_are_names := F_law_are_names.binds (ps := ["thing"]) fun _ _ _ _ _ _ us hl => match us, hl with | [_], _ => rfl
  have m_law_are_names := PySem.W.mg_of X G a_law_are_names
  obtain ⟨f_law_odd, _, _, _, _, _, _, _, _, _, a_law_odd, l_law_odd, c_law_odd, k_law_odd⟩ := h_law_odd
  have F_law_odd := fun_mk (st := s_law_odd) l_law_odd c_law_odd k_law_odd
  have b_law_odd := F_law_odd.binds (ps := ["bag"]) fun _ _ _ _ _ _ us hl => match us, hl with | [_], _ => rfl
  have m_law_odd := PySem.W.mg_of X G a_law_odd
  obtain ⟨f_law_is_deed, _, _, _, _, _, _, _, _, _, a_law_is_deed, l_law_is_deed, c_law_is_deed, k_law_is_deed⟩ := h_law_is_deed
  have F_law_is_deed := fun_mk (st := s_law_is_deed) l_law_is_deed c_law_is_deed k_law_is_deed
  have b_law_is_deed := F_law_is_deed.binds (ps := ["thing"]) fun _ _ _ _ _ _ us hl => match us, hl with | [_], _ => rfl
  have m_law_is_deed := PySem.W.mg_of X G a_law_is_deed
  obtain ⟨f_law_is_wish, _, _, _, _, _, _, _, _, _, a_law_is_wish, l_law_is_wish, c_law_is_wish, k_law_is_wish⟩ := h_law_is_wish
  have F_law_is_wish := fun_mk (st := s_law_is_wish) l_law_is_wish c_law_is_wish k_law_is_wish
  have b_law_is_wish := F_law_is_wish.binds (ps := ["thing"]) fun _ _ _ _ _ _ us hl => match us, hl with | [_], _ => rfl
  have m_law_is_wish := PySem.W.mg_of X G a_law_is_wish
  obtain ⟨f_law_some_name, _, _, _, _, _, _, _, _, _, a_law_some_name, l_law_some_name, c_law_some_name, k_law_some_name⟩ := h_law_some_name
  have F_law_some_name := fun_mk (st := s_law_some_name) l_law_some_name c_law_some_name k_law_some_name
  have b_law_some_name := F_law_some_name.binds (ps := ["bag"]) fun _ _ _ _ _ _ us hl => match us, hl with | [_], _ => rfl
  have m_law_some_name := PySem.W.mg_of X G a_law_some_name
  obtain ⟨f_law_drawn_thing, _, _, _, _, _, _, _, _, _, a_law_drawn_thing, l_law_drawn_thing, c_law_drawn_thing, k_law_drawn_thing⟩ := h_law_drawn_thing
  have F_law_drawn_thing := fun_mk (st := s_law_drawn_thing) l_law_drawn_thing c_law_drawn_thing k_law_drawn_thing
  have b_law_drawn_thing := F_law_drawn_thing.binds (ps := ["bag"]) fun _ _ _ _ _ _ us hl => match us, hl with | [_], _ => rfl
  have m_law_drawn_thing := PySem.W.mg_of X G a_law_drawn_thing
  obtain ⟨f_law_near_one, _, _, _, _, _, _, _, _, _, a_law_near_one, l_law_near_one, c_law_near_one, k_law_near_one⟩ := h_law_near_one
  have F_law_near_one := fun_mk (st := s_law_near_one) l_law_near_one c_law_near_one k_law_near_one
  have b_law_near_one := F_law_near_one.binds (ps := ["bag"]) fun _ _ _ _ _ _ us hl => match us, hl with | [_], _ => rfl
  have m_law_near_one := PySem.W.mg_of X G a_law_near_one
  obtain ⟨f_law_bent, _, _, _, _, _, _, _, _, _, a_law_bent, l_law_bent, c_law_bent, k_law_bent⟩ := h_law_bent
  have F_law_bent := fun_mk (st := s_law_bent) l_law_bent c_law_bent k_law_bent
  have b_law_bent := F_law_bent.binds (ps := ["bag", "thing"]) fun _ _ _ _ _ _ us hl => match us, hl with | [_, _], _ => rfl
  have m_law_bent := PySem.W.mg_of X G a_law_bent
  obtain ⟨fI, _, _, _, _, _, _, _, _, _, aI, iI, lI, cI, kI⟩ := hI
  have FI := fun_mk (st := s_Gate___init__) lI cI kI
  have bI := FI.binds (ps := ["self", "states", "doors", "closet", "rules"]) fun _ _ _ _ _ _ us hl => match us, hl with | [_, _, _, _, _], _ => rfl
  obtain ⟨fE, _, _, _, _, _, _, _, _, _, aE, iE, lE, cE, kE⟩ := hE
  have FE := fun_mk (st := s_Gate___eq__) lE cE kE
  have bE := FE.binds (ps := ["self", "other"]) fun _ _ _ _ _ _ us hl => match us, hl with | [_, _], _ => rfl
  obtain ⟨f_law, oc0, od0, an0, osl0, kV0, doc0, pm0, cdv0, ct0, a_law, l_law, c_law, k_law⟩ := h_law
  have e := hfa.symm.trans (PySem.W.mg_of X G a_law)
  cases e
  refine ⟨PySem.W.fnOf "law" "law" (defArgs s_law) (defBody s_law) (defScope s_law) .none kV0 doc0 pm0 an0 cdv0 ct0, fun s v => .of_eq rfl, fun base hK hN hM => ?_⟩
  have M_Gate : EqM P w K mg base 2 C ["self", "other"] (spNe C) := ⟨fE, _, ok_eq FE T hG ks, bE, aE, iE, nf, nfo⟩
  have D_is_integer : Def P w K mg base 2 "is_integer" ["thing"] (spB K (fun _ => True) isWhole) := ⟨f_is_integer, _, ok_is_integer F_is_integer T , b_is_integer, m_is_integer, k_is_integer⟩
  have D_is_name : Def P w K mg base 2 "is_name" ["thing"] (spB K Wd isName) := ⟨f_is_name, _, ok_is_name F_is_name T , b_is_name, m_is_name, k_is_name⟩
  have D_are_names : Def P w K mg base 3 "are_names" ["thing"] (spB K (fun d => Wd d ∧ ∀ ds, d = .lst ds ∨ d = .tup ds → ds.length < 4000) areNames) := ⟨f_are_names, _, ok_are_names F_are_names T D_is_name, b_are_names, m_are_names, k_are_names⟩
  have D_is_pair : Def P w K mg base 3 "is_pair" ["thing"] (spB K Wd isPair) := ⟨f_is_pair, _, ok_is_pair F_is_pair T D_is_name, b_is_pair, m_is_pair, k_is_pair⟩
  have D_are_pairs_of_names : Def P w K mg base 4 "are_pairs_of_names" ["thing"] (spB K Wd arePairs) := ⟨f_are_pairs_of_names, _, ok_are_pairs F_are_pairs_of_names T D_is_pair, b_are_pairs_of_names, m_are_pairs_of_names, k_are_pairs_of_names⟩
  have D_is_given : Def P w K mg base 3 "is_given" ["thing"] (spB K (fun d => Wd d ∧ d.noObj = true) isGiven) := ⟨f_is_given, _, ok_is_given F_is_given T D_is_name, b_is_given, m_is_given, k_is_given⟩
  have D_is_wish : Def P w K mg base 5 "is_wish" ["thing"] (spB K Wd isWish) := ⟨f_is_wish, _, ok_is_wish F_is_wish T D_are_pairs_of_names, b_is_wish, m_is_wish, k_is_wish⟩
  have D_is_deed : Def P w K mg base 4 "is_deed" ["thing"] (spB K (DeedOk C) isDeed) := ⟨f_is_deed, _, ok_is_deed F_is_deed T D_is_name D_is_given M_Gate, b_is_deed, m_is_deed, k_is_deed⟩
  have D_law_bag : Def P w K mg base 2 "_law_bag" ["script"] (spBag K) := ⟨f_law_bag, _, ok_bag F_law_bag T , b_law_bag, m_law_bag, k_law_bag⟩
  have D_law_take : Def P w K mg base 2 "_law_take" ["bag", "many"] (spTake) := ⟨f_law_take, _, ok_take F_law_take T , b_law_take, m_law_take, k_law_take⟩
  have D_law_one : Def P w K mg base 3 "_law_one" ["bag", "things"] (spOne) := ⟨f_law_one, _, ok_one F_law_one T D_law_take, b_law_one, m_law_one, k_law_one⟩
  have D_law_alike : Def P w K mg base 2 "_law_alike" ["found", "due"] (spAlike K) := ⟨f_law_alike, _, ok_alike F_law_alike T hM, b_law_alike, m_law_alike, k_law_alike⟩
  have D_law_is_whole : Def P w K mg base 2 "_law_is_whole" ["thing"] (spB K (fun _ => True) isWhole) := ⟨f_law_is_whole, _, ok_law_is_whole F_law_is_whole T , b_law_is_whole, m_law_is_whole, k_law_is_whole⟩
  have D_law_is_name : Def P w K mg base 2 "_law_is_name" ["thing"] (spB K Wd isName) := ⟨f_law_is_name, _, ok_law_is_name F_law_is_name T , b_law_is_name, m_law_is_name, k_law_is_name⟩
  have D_law_are_names : Def P w K mg base 3 "_law_are_names" ["thing"] (spB K Wd areNames) := ⟨f_law_are_names, _, ok_law_are_names F_law_are_names T D_law_is_name, b_law_are_names, m_law_are_names, k_law_are_names⟩
  have D_law_odd : Def P w K mg base 4 "_law_odd" ["bag"] (spDraw K Gd) := ⟨f_law_odd, _, ok_odd F_law_odd T D_law_take D_law_one, b_law_odd, m_law_odd, k_law_odd⟩
  have D_law_is_deed : Def P w K mg base 3 "_law_is_deed" ["thing"] (spB K Wd isDeed) := ⟨f_law_is_deed, _, ok_law_is_deed F_law_is_deed T D_law_is_name, b_law_is_deed, m_law_is_deed, k_law_is_deed⟩
  have D_law_is_wish : Def P w K mg base 3 "_law_is_wish" ["thing"] (spB K Wd isWish) := ⟨f_law_is_wish, _, ok_law_is_wish F_law_is_wish T D_law_is_name, b_law_is_wish, m_law_is_wish, k_law_is_wish⟩
  have D_law_some_name : Def P w K mg base 4 "_law_some_name" ["bag"] (spDraw K Gw) := ⟨f_law_some_name, _, ok_some_name F_law_some_name T D_law_one, b_law_some_name, m_law_some_name, k_law_some_name⟩
  have D_law_drawn_thing : Def P w K mg base 5 "_law_drawn_thing" ["bag"] (spDraw K Gs) := ⟨f_law_drawn_thing, _, ok_drawn_thing F_law_drawn_thing T D_law_take D_law_one D_law_some_name, b_law_drawn_thing, m_law_drawn_thing, k_law_drawn_thing⟩
  have D_law_near_one : Def P w K mg base 4 "_law_near_one" ["bag"] (spDraw K Gs) := ⟨f_law_near_one, _, ok_near_one F_law_near_one T D_law_take D_law_one, b_law_near_one, m_law_near_one, k_law_near_one⟩
  have D_law_bent : Def P w K mg base 5 "_law_bent" ["bag", "thing"] (spDraw1 K Gs Gb) := ⟨f_law_bent, _, ok_bent F_law_bent T D_law_take D_law_one D_law_odd, b_law_bent, m_law_bent, k_law_bent⟩
  exact ok_law (fun_mk (st := s_law) l_law c_law k_law) T hM hG oC ⟨mk, aI, iI, kc⟩ (ok_init FI T oC.cl n1 n2 n3 n4 D_is_integer D_are_names) bI D_is_integer D_is_name D_are_names D_is_wish D_is_deed D_law_is_whole D_law_is_name D_law_are_names D_law_is_wish D_law_is_deed D_law_bag D_law_take D_law_alike D_law_odd D_law_some_name D_law_drawn_thing D_law_near_one D_law_bent
end K

set_option Elab.async false
set_option linter.all false
open PySem PySem.W PyProof.Rows in
set_option maxRecDepth 100000 in
set_option maxHeartbeats 0 in
theorem PySem.Challenge.cw_letinside_k11_kinds_of_any_value_holds : PySem.Challenge.rw_letinside_k11_kinds_of_any_value.Holds := by
  w_on; o_law; k_head; (case hw => w_witness2)
  k_fill
  refine G.walk_by (l := PySem.Challenge.rw_letinside_k11_kinds_of_any_value) (n := 63) (k := 6) (x := "script") (sp := fun F => K.spLaw F) rfl (by decide) rfl ⟨rfl, by decide, by decide⟩ (by rfl) (fun w h Y => PySem.W.kIn_of Y) ?F (fun _ H a ns hl hO hS => ⟨a, ns, rfl, hS, hl, fun _ => rfl⟩)
  case F =>
    intro w mg fa h KX G hmg
    refine' K.all_mk KX G hmg ?d_is_integer ?d_is_name ?d_are_names ?d_is_pair ?d_are_pairs_of_names ?d_is_given ?d_is_wish ?d_is_deed ?d_law_bag ?d_law_take ?d_law_one ?d_law_alike ?d_law_is_whole ?d_law_is_name ?d_law_are_names ?d_law_odd ?d_law_is_deed ?d_law_is_wish ?d_law_some_name ?d_law_drawn_thing ?d_law_near_one ?d_law_bent ?law ?aC ?hI ?hE ?mk ?kc ?oC ?ks ?nf ?nfo ?n1 ?n2 ?n3 ?n4 ?z_len ?z_isinstance ?z_int ?z_str ?z_bool ?z_list ?z_tuple ?z_dict ?z_set ?z_abs ?z_repr ?z_sorted ?z_all ?z_range ?z_zip ?z_enumerate ?z_min
    (case d_is_integer => (refine' K.hasDef ?a ?l ?c ?k; (case a => k_is); (case l => k_is); (case c => k_is); (case k => k_is)))
    (case d_is_name => (refine' K.hasDef ?a ?l ?c ?k; (case a => k_is); (case l => k_is); (case c => k_is); (case k => k_is)))
    (case d_are_names => (refine' K.hasDef ?a ?l ?c ?k; (case a => k_is); (case l => k_is); (case c => k_is); (case k => k_is)))
    (case d_is_pair => (refine' K.hasDef ?a ?l ?c ?k; (case a => k_is); (case l => k_is); (case c => k_is); (case k => k_is)))
    (case d_are_pairs_of_names => (refine' K.hasDef ?a ?l ?c ?k; (case a => k_is); (case l => k_is); (case c => k_is); (case k => k_is)))
    (case d_is_given => (refine' K.hasDef ?a ?l ?c ?k; (case a => k_is); (case l => k_is); (case c => k_is); (case k => k_is)))
    (case d_is_wish => (refine' K.hasDef ?a ?l ?c ?k; (case a => k_is); (case l => k_is); (case c => k_is); (case k => k_is)))
    (case d_is_deed => (refine' K.hasDef ?a ?l ?c ?k; (case a => k_is); (case l => k_is); (case c => k_is); (case k => k_is)))
    (case d_law_bag => (refine' K.hasDef ?a ?l ?c ?k; (case a => k_is); (case l => k_is); (case c => k_is); (case k => k_is)))
    (case d_law_take => (refine' K.hasDef ?a ?l ?c ?k; (case a => k_is); (case l => k_is); (case c => k_is); (case k => k_is)))
    (case d_law_one => (refine' K.hasDef ?a ?l ?c ?k; (case a => k_is); (case l => k_is); (case c => k_is); (case k => k_is)))
    (case d_law_alike => (refine' K.hasDef ?a ?l ?c ?k; (case a => k_is); (case l => k_is); (case c => k_is); (case k => k_is)))
    (case d_law_is_whole => (refine' K.hasDef ?a ?l ?c ?k; (case a => k_is); (case l => k_is); (case c => k_is); (case k => k_is)))
    (case d_law_is_name => (refine' K.hasDef ?a ?l ?c ?k; (case a => k_is); (case l => k_is); (case c => k_is); (case k => k_is)))
    (case d_law_are_names => (refine' K.hasDef ?a ?l ?c ?k; (case a => k_is); (case l => k_is); (case c => k_is); (case k => k_is)))
    (case d_law_odd => (refine' K.hasDef ?a ?l ?c ?k; (case a => k_is); (case l => k_is); (case c => k_is); (case k => k_is)))
    (case d_law_is_deed => (refine' K.hasDef ?a ?l ?c ?k; (case a => k_is); (case l => k_is); (case c => k_is); (case k => k_is)))
    (case d_law_is_wish => (refine' K.hasDef ?a ?l ?c ?k; (case a => k_is); (case l => k_is); (case c => k_is); (case k => k_is)))
    (case d_law_some_name => (refine' K.hasDef ?a ?l ?c ?k; (case a => k_is); (case l => k_is); (case c => k_is); (case k => k_is)))
    (case d_law_drawn_thing => (refine' K.hasDef ?a ?l ?c ?k; (case a => k_is); (case l => k_is); (case c => k_is); (case k => k_is)))
    (case d_law_near_one => (refine' K.hasDef ?a ?l ?c ?k; (case a => k_is); (case l => k_is); (case c => k_is); (case k => k_is)))
    (case d_law_bent => (refine' K.hasDef ?a ?l ?c ?k; (case a => k_is); (case l => k_is); (case c => k_is); (case k => k_is)))
    (case law => (refine' K.hasDef ?a ?l ?c ?k; (case a => k_is); (case l => k_is); (case c => k_is); (case k => k_is)))
    (case aC => k_is)
    (case hI => (refine' K.hasMet ?a ?i ?l ?c ?k; (case a => k_is); (case i => k_is); (case l => k_is); (case c => k_is); (case k => k_is)))
    (case hE => (refine' K.hasMet ?a ?i ?l ?c ?k; (case a => k_is); (case i => k_is); (case l => k_is); (case c => k_is); (case k => k_is)))
    (case mk => k_is)
    (case kc => k_is)
    (case oC => (refine' ⟨⟨?_, ?_, ?_, ?_⟩, ?_, ?_, ?_, ?_, K.kit_own (by decide +kernel) ?_, K.kit_own (by decide +kernel) ?_, K.kit_own (by decide +kernel) ?_, K.kit_own (by decide +kernel) ?_, K.kit_own (by decide +kernel) ?_, K.kit_own (by decide +kernel) ?_⟩ <;> k_is))
    (case ks => (refine' K.kit_of_own ?a ?b ?c; (case a => k_is); (case b => k_is); (case c => k_is)))
    (case nf => (intro T hT; simp only [List.mem_cons, List.not_mem_nil, or_false] at hT; rcases hT with rfl | rfl | rfl | rfl | rfl | rfl | rfl <;> k_is))
    (case nfo => k_is)
    (case n1 => k_is)
    (case n2 => k_is)
    (case n3 => k_is)
    (case n4 => k_is)
    (case z_len => k_is)
    (case z_isinstance => k_is)
    (case z_int => k_is)
    (case z_str => k_is)
    (case z_bool => k_is)
    (case z_list => k_is)
    (case z_tuple => k_is)
    (case z_dict => k_is)
    (case z_set => k_is)
    (case z_abs => k_is)
    (case z_repr => k_is)
    (case z_sorted => k_is)
    (case z_all => k_is)
    (case z_range => k_is)
    (case z_zip => k_is)
    (case z_enumerate => k_is)
    (case z_min => k_is)

