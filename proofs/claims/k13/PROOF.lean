import PyProof.Rows.All
import Wide.All
import OpenK.AllK
import Wide.FinOn
import HandS.ForMost
import HandS.Flow
import HandS.Property
import HandS.OwnEq
import HandS.Wide
import HandS.WideMore
import HandS.Gcd
import HandS.FStr
import HandS.Zip
import HandS.IsInst
import HandS.Defaults
import HandS.HeadHook2
import HandS.HeadEnd
import HandS.HeadNt
import HandS.Head2
import HandS.RaiseMore
import HandS.DictComp
import HandS.StrMore
import HandS.ListItems
import HandS.ClsMeth
import HandS.DictEq
import HandS.Lambda
import HandS.EndTab
import HandS.ExcInit
import HandS.ExcField
import HandS.ExcIs
import HandS.TryMany
import HandS.ExcOwn
import HandS.HeadWalk
import KE.KNestM
import HandS.Text
import HandS.StrSplit
import HandS.Replace
import HandS.Walk
import KE.KParD
import KE.KOpsOwn
import HandS.MakeKw
import HandS.Star
import HandS.Iter
import PySem.Challenge.RW_leastlog_k13_forms_reckoned
set_option Elab.async false
set_option linter.all false
set_option maxRecDepth 100000
set_option maxHeartbeats 8000000
/-! LL: rules of our own over the hand layer: defs that know that no repr is under way (FnG), operators, ==, repr, str of an own class. -/
namespace LL
open PySem PySem.Spec PyProof.Rows L2

/-- nothing guarded is under way (where g asks for it) -/
def Clr (g : Bool) (A : Around) : Prop := g = true → A.guards = some []
theorem clr_no {A : Around} : Clr false A := fun h => nomatch h
theorem Clr.to {g' g : Bool} {A : Around} (c : Clr g A) (h : g' = true → g = true) : Clr g' A := fun e => c (h e)
theorem clr_deeper {g : Bool} {A : Around} {env : Env} (c : Clr g A) : Clr g (A.deeper env) := fun e => by
  have h := c e
  first | exact h | (simpa [Around.deeper, Around.under, pushGuards] using h)
theorem clr_in1 {g : Bool} {A : Around} (c : Clr g A) : Clr g A.in1 := fun e => by
  have h := c e
  first | exact h | (simpa [Around.in1] using h)
theorem clr_make {g : Bool} {A : Around} {C : Addr} {us : List Value} {kw : List (Str × Value)} (c : Clr g A) : Clr g (A.under (.builtin "type.__call__" ⟨.ref C :: us, kw⟩)) := fun e => by
  have h := c e
  have z : (Code.builtin "type.__call__" ⟨.ref C :: us, kw⟩).isGuard = false := by show guardIds.contains "type.__call__" = false; decide +kernel
  simp only [Around.under, Code.guards, z, Bool.false_eq_true, if_false, pushGuards]
  exact h

/-- a def's promise, for calls where (if g) nothing guarded is under way -/
structure FnG (P : Program) (w : World) (K : PySem.W.Frag) (mg : Str → Option Value) (base : Heap) (CX : CXT) (g : Bool) (k : Nat) (f : Addr) (fd : FuncData) (ps : List Str) (sp : Sp) : Prop where
  len : ∀ vs H Q E, sp vs H Q E → vs.length = ps.length
  run : ∀ (A : Around) (outer : List Env) (s : Shared) (H : Hp) (args : Args) (us : List Value) (vs : List V) (Q : VK) (E : XK), Room k A → Clr g A → Env0 P w K mg base A outer s H →
    BindsTo s fd args (ps.zip us) → Vals vs us → sp vs H Q E → codeAny (model P w) A (.call (.ref f) args) (CR CX outer P w H s Q E) s
section
variable {P : Program} {w : World} {K : PySem.W.Frag} {mg : Str → Option Value} {base : Heap} {CX : CXT} {g : Bool} {j k : Nat} {f : Addr} {fd : FuncData} {ps : List Str} {sp sp' : Sp}
theorem FnG.mono (F : FnG P w K mg base CX g j f fd ps sp) (h : j ≤ k) : FnG P w K mg base CX g k f fd ps sp :=
  ⟨F.len, fun A outer s H args us vs Q E hr => F.run A outer s H args us vs Q E (hr.mono h)⟩
theorem FnG.imp (F : FnG P w K mg base CX g k f fd ps sp) (h : ∀ vs H Q E, sp' vs H Q E → sp vs H Q E) : FnG P w K mg base CX g k f fd ps sp' :=
  ⟨fun vs H Q E q => F.len vs H Q E (h _ _ _ _ q), fun A outer s H args us vs Q E hr hg he hb hv q => F.run A outer s H args us vs Q E hr hg he hb hv (h _ _ _ _ q)⟩
theorem ok_g (F : FnOk P w K mg base CX k f fd ps sp) : FnG P w K mg base CX g k f fd ps sp :=
  ⟨F.len, fun A outer s H args us vs Q E hr _ => F.run A outer s H args us vs Q E hr⟩
theorem g_ok (F : FnG P w K mg base CX false k f fd ps sp) : FnOk P w K mg base CX k f fd ps sp :=
  ⟨F.len, fun A outer s H args us vs Q E hr => F.run A outer s H args us vs Q E hr clr_no⟩
/-- two promises that are both kept -/
theorem FnG.both (F : FnG P w K mg base CX g k f fd ps sp) (F' : FnG P w K mg base CX g k f fd ps sp') : FnG P w K mg base CX g k f fd ps (fun vs H Q E => sp vs H Q E ∨ sp' vs H Q E) :=
  ⟨fun vs H Q E q => q.elim (F.len vs H Q E) (F'.len vs H Q E), fun A outer s H args us vs Q E hr hg he hb hv q => q.elim (F.run A outer s H args us vs Q E hr hg he hb hv) (F'.run A outer s H args us vs Q E hr hg he hb hv)⟩

/-- a def by its body -/
theorem fnG_of {name qual : Str} {params : Arguments} {body : List Stmt} {scope : Scope} {dV kV doc pm cdv ct oc : Value} {an od : Option Addr} {osl : Array (Option Value)} {N : List Str}
    (lk : K.lookup f = some ⟨oc, od, .func (PySem.W.fnOf name qual params body scope dV kV doc pm an cdv ct), osl⟩) (hcd : PySem.W.codeIn K cdv qual = true) (S : FnScope N ps scope)
    (len : ∀ vs H Q E, sp vs H Q E → vs.length = ps.length)
    (hb : ∀ (A : Around) (outer : List Env) (s : Shared) (H : Hp) (vs : List V) (Q : VK) (E : XK), Room k (A.deeper (envOfC qual scope s.heap.objs.size f cdv)) → Clr g (A.deeper (envOfC qual scope s.heap.objs.size f cdv)) → sp vs H Q E →
      ∃ t, PSs (cxOf CX P w K mg base N qual scope f cdv A outer s H E) body t ∧ t { nx := fun _ H' => Q .non H', rt := Q } (start N vs) H) :
    FnG P w K mg base CX g (k + 1) f (PySem.W.fnOf name qual params body scope dV kV doc pm an cdv ct) ps sp := by
  constructor
  · exact len
  intro A outer s H args us vs Q E room clr e0 bnd rel want
  have L := len _ _ _ _ want
  have kin : K.In s.heap := e0.mod.kin.keeps (fun b o e => (e0.bs b o e).1)
  have nolim : s.heap.NoLimit := e0.mod.nolimit.keeps (fun b o e => (e0.bs b o e).1)
  have kinds : ∀ y ∈ ps.zip us, scope.names.lookup y.1 = some .local ∨ (scope.names.lookup y.1 = some .cell ∧ ((cellsFrom (s.heap.objs.size + 1) scope.names []).lookup y.1).isSome = true) := by
    rintro ⟨n, v⟩ hy
    have hp := S.par n (List.of_mem_zip hy).1
    exact hp.imp id fun q => ⟨q, PySem.W.cellsFrom_some _ _ _ (.inl q)⟩
  refine codeAny_call_function room.depth (kin _ _ lk) rfl S.co S.gen rfl (PySem.W.codeRec_of kin hcd) (bnd _ _ _ _ (wpAny_newFunctionEnv_cells S.kind kinds fun env he s1 x => ?_))
  cases he
  obtain ⟨t, ht, hq⟩ := hb A outer s H vs Q E (room.deeper _) (clr_deeper clr) want
  refine ⟨nolim.keeps x.toInCall.keep, codeAny_func (wpAny_mono (ht.run [] s1 (start N vs) H _ (inv_start S room.hd e0 L rel x) hq) (fun fl s' hs => ?_) (fun e s' z => z))⟩
  cases fl with
  | ret u => obtain ⟨v, σ', H', J, rv, q⟩ := hs; exact ⟨v, H', J.os, J.bare, J.base, J.hok, rv, q⟩
  | next => obtain ⟨σ', H', J, q⟩ := hs; exact ⟨.non, H', J.os, J.bare, J.base, J.hok, rfl, q⟩
  | brk => obtain ⟨_, _, _, q⟩ := hs; exact q.elim
  | cont => obtain ⟨_, _, _, q⟩ := hs; exact q.elim
end
section
variable {P : Program} {w : World} {K : PySem.W.Frag} {mg : Str → Option Value} {base : Heap} {g : Bool} {k : Nat} {f : Addr} {fd : FuncData} {ps N : List Str} {sp : Sp} {x qual : Str} {st : Stmt} {args : Arguments} {body : List Stmt} {sc : Scope} {dvs : List V} {kws : List (Str × V)}
/-- a def of the text, from which no exception goes -/
theorem funG (F : FunD K x qual args body sc dvs kws f fd) (S : FnScope N ps sc) (len : ∀ vs H Q E, sp vs H Q E → vs.length = ps.length)
    (hb : ∀ (cdv : Value) (A : Around) (outer : List Env) (s : Shared) (H : Hp) (vs : List V) (Q : VK) (E : XK), Room k (A.deeper (envOfC qual sc s.heap.objs.size f cdv)) → Clr g (A.deeper (envOfC qual sc s.heap.objs.size f cdv)) → sp vs H Q E →
      ∃ t, PSs (cxOf CX0 P w K mg base N qual sc f cdv A outer s H E).nox body t ∧ t { nx := fun _ H' => Q .non H', rt := Q } (start N vs) H) : FnG P w K mg base CX0 g (k + 1) f fd ps sp := by
  obtain ⟨oc, od, dV, kV, doc, pm, an, cdv, ct, osl, e, lk, hcd, _⟩ := F.ex
  subst e
  refine fnG_of lk hcd S len ?_
  intro A outer s H vs Q E hr hg q
  obtain ⟨t, h1, h2⟩ := hb cdv A outer s H vs Q E hr hg q
  exact ⟨t, h1.nox, h2⟩
end

section
variable {X : Cx} {CX : CXT} {g : Bool} {k : Nat} {f C : Addr} {fd : FuncData} {ps : List Str} {sp : Sp} {dvs : List V} {ds : List Value} {E : XK} {x m : Str} {p pos apos : Pos} {e o : Expr} {es : List Expr} {ta : TE} {t : TA}
/-- the callee runs -/
theorem run_g {pins : List (Addr × Obj)} {σ : L2.St} {H : Hp} {s : Shared} {Q : VK} {us : List Value} {vs : List V} {A : Around} {E' : Value → Shared → Prop} (F : FnG X.prog X.w X.K X.mg X.base CX g k f fd ps sp) (hr : Room k A) (hg : Clr g A) (hA : A.frames = X.A.frames) (hb : Binds X.K fd ps ds)
    (hd : Vals dvs ds) (hx : Passes CX (X.wish E') E) (I : Inv X pins σ H s) (r : Vals vs us) (h : sp (vs ++ dvs) H Q E) : wpAny (model X.prog X.w) A (call (.ref f) us) (EP X pins σ Q) E' s := by
  have r2 : Vals (vs ++ dvs) (us ++ ds) := r.append hd
  have e0 := I.env0
  have e1 : Env0 X.prog X.w X.K X.mg X.base A X.stack s H := ⟨hA.trans e0.frames, e0.mod, e0.bs, e0.bsz, e0.funs, e0.frf, e0.hok, e0.bare⟩
  have hl : (us ++ ds).length = ps.length := r2.length.symm.trans (F.len _ _ _ _ h)
  refine wpAny_call (codeAny_mono (F.run A X.stack s H ⟨us, []⟩ _ _ Q E hr hg e1 (hb s us I.kIn hl) r2 h) (fun res s' q => ?_))
  match res, q with
  | .error er, q => exact hx pins σ H s er s' (I.wish _) q
  | .ok (.ret u), q => exact I.after q
  | .ok .next, q => exact q.elim
  | .ok .brk, q => exact q.elim
  | .ok .cont, q => exact q.elim
theorem run_gX {pins : List (Addr × Obj)} {σ : L2.St} {H : Hp} {s : Shared} {Q : VK} {us : List Value} {vs : List V} (F : FnG X.prog X.w X.K X.mg X.base CX g k f fd ps sp) (hr : Room k X.A) (hg : Clr g X.A) (hb : Binds X.K fd ps ds)
    (hd : Vals dvs ds) (hx : Passes CX X E) (I : Inv X pins σ H s) (r : Vals vs us) (h : sp (vs ++ dvs) H Q E) : wpAny (model X.prog X.w) X.A (call (.ref f) us) (EP X pins σ Q) X.xe s :=
  run_g (E' := X.xe) F hr hg rfl hb hd hx I r h

/-- f(a, ..) -/
theorem pg_call (F : FnG X.prog X.w X.K X.mg X.base CX g k f fd ps sp) (hr : Room k X.A) (hg : Clr g X.A) (hgl : Gl X x) (hm : X.mg x = some (.ref f)) (hk : PySem.W.keepIn X.K (.ref f) = true) (hb : Binds X.K fd ps ds) (hd : Vals dvs ds)
    (hx : Passes CX X E) (ha : PA X (e :: es) t)
    (hdb : (x == ("__debug__" : Str)) = false := by decide) (he : starEach (e :: es) X.env = (false, eval e X.env) :: starEach es X.env := by rfl)
    (hpl : (backTo pos (starEach es X.env)).any (·.1) = false := by rfl) : PE X (.Call (.Name x p) (e :: es) [] pos) (tCall sp dvs E t) := by
  constructor
  intro pins s σ H Q I h
  refine wpAny_Call_Name_kw (ld_glob I hgl hm ?_ hdb)
  refine PySem.W.callWith_K (h₀ := X.base) I.ok.mod.kin hk (thn (ha.run pos pins s σ H _ I h) ?_) he hpl
  rintro us s1 ⟨vs, H1, I1, r, q⟩
  exact ⟨I1.kIn, run_gX F hr hg hb hd hx I1 r q⟩
/-- f() -/
theorem pg_call0 (F : FnG X.prog X.w X.K X.mg X.base CX g k f fd ps sp) (hr : Room k X.A) (hg : Clr g X.A) (hgl : Gl X x) (hm : X.mg x = some (.ref f)) (hk : PySem.W.keepIn X.K (.ref f) = true) (hb : Binds X.K fd ps ds) (hd : Vals dvs ds)
    (hx : Passes CX X E) (hdb : (x == ("__debug__" : Str)) = false := by decide) : PE X (.Call (.Name x p) [] [] pos) (tCall sp dvs E tNil) := by
  constructor
  intro pins s σ H Q I h
  exact wpAny_Call_Name_kw (ld_glob I hgl hm (PySem.W.callWith_K0 I.kIn hk (run_gX (us := []) F hr hg hb hd hx I .nil h)) hdb)
/-- o.m(a, ..) -/
theorem pg_meth {pl : Sem Bool} (he : PE X o ta) (c : Cls X.K C) (hm : Meth X.K C m f) (F : FnG X.prog X.w X.K X.mg X.base CX g k f fd ps sp) (hr : Room k X.A) (hg : Clr g X.A) (hb : Binds X.K fd ps ds) (hd : Vals dvs ds)
    (hx : Passes CX X E) (ha : PA X (e :: es) t)
    (hst : starEach (e :: es) X.env = (false, eval e X.env) :: starEach es X.env := by rfl) (hpl : (backTo pos (starEach es X.env)).any (·.1) = false := by rfl)
    (ht : eval (.Call (.Attribute o m apos) (e :: es) [] pos) X.env = (do let ov ← eval o X.env; standAt apos.atName; let (f, first) ← holding [ov] (getMethod ov m pl); callWith pos f first (backTo pos (starEach (e :: es) X.env)) (backToKw pos (keywordEach [] X.env))) := by rfl) :
    PE X (.Call (.Attribute o m apos) (e :: es) [] pos) (tMeth C m sp dvs E ta t) := by
  constructor
  intro pins s σ H Q I h
  refine PySem.W.methodCall_KW (pl := pl) (thn (he.run pins s σ H _ I h) ?_) ht
  rintro u s1 ⟨y, H1, I1, ry, a, dx, fs, ey, ea, l, q⟩
  subst ey
  obtain rfl : u = Value.ref a := ry
  refine getmeth_ok I1 ea c hm l (PySem.W.callWith_K (first := [.ref a]) (h₀ := X.base) I.ok.mod.kin hm.kp (thn (ha.run pos pins s1 σ H1 _ I1 q) ?_) hst hpl)
  rintro us s2 ⟨vs, H2, I2, r, q2⟩
  exact ⟨I2.kIn, run_gX (us := .ref a :: us) (vs := .ref a :: vs) F hr hg hb hd hx I2 (.cons rfl r) q2⟩
/-- a property of an own class: the getter's promise -/
theorem pg_prop {f : Str} {pp ge : Addr} (he : PE X e ta) (c : Cls X.K C) (hp : PropOf X.K C f pp ge) (F : FnG X.prog X.w X.K X.mg X.base CX g k ge fd ps sp) (hr : Room (k + 1) X.A) (hg : Clr g X.A) (hb : Binds X.K fd ps ds) (hd : Vals dvs ds)
    (hx : Passes CX X.nox E) (hab : attributeBase e f X.env (eval e X.env) = eval e X.env) : PE X (.Attribute e f pos) (tProp C sp dvs E ta) := by
  constructor
  intro pins s σ H Q I h
  refine attr_of hab (thn (he.run pins s σ H _ I h) ?_)
  rintro u s1 ⟨y, H1, I1, ry, a, dx, fs, ey, ea, q⟩
  subst ey
  obtain rfl : u = Value.ref a := ry
  obtain ⟨mA, O, _⟩ := ins_get I1.hok ea
  obtain ⟨od, J, _⟩ := O.look
  obtain ⟨rest, hrec⟩ := hp.rec_
  have hc : (PySem.W.clsIn X.K C).isSome = true := by
    obtain ⟨cd, z, _⟩ := PySem.W.any_some c.hd
    rw [z]; rfl
  refine PySem.W.get_bind I1.kIn J (PySem.W.plainGet_of (c.get f)).1 (PySem.W.findObj_data hc hp.at_ hp.get hp.tak) (PySem.W.plainGet_of (c.get f)).2 (wpAny_call (PySem.W.prop_get (s := { s1 with toks := s1.toks + 1 }) I1.kIn hrec ?_))
  have I2 := I1.tok (s1.toks + 1)
  have e0 := I2.env0.in1
  have r2 : Vals (V.ref a :: dvs) (Value.ref a :: ds) := .cons rfl hd
  have hl : ([Value.ref a] ++ ds).length = ps.length := r2.length.symm.trans (F.len _ _ _ _ q)
  refine codeAny_mono (F.run X.A.in1 X.stack { s1 with toks := s1.toks + 1 } H1 ⟨[.ref a], []⟩ _ _ Q E hr.in1 (clr_in1 hg) e0 (hb _ [.ref a] I2.kIn hl) r2 q) (fun res s' q2 => ?_)
  match res, q2 with
  | .error er, q2 => exact False.elim (hx pins σ H1 { s1 with toks := s1.toks + 1 } er s' (I2.wish _) q2)
  | .ok (.ret u), q2 =>
    obtain ⟨v, H', I3, rv, q3⟩ := I2.after q2
    show wpAny _ _ (handedOut u) _ _ _
    rw [PySem.W.handedOut_of (handed_of rv)]
    exact wpAny_pure ⟨v, H', I3, rv, q3⟩
  | .ok .next, q2 => exact q2.elim
  | .ok .brk, q2 => exact q2.elim
  | .ok .cont, q2 => exact q2.elim
end
end LL
/-! LL2: operators, ==, !=, repr, str of an own class. -/
namespace LL
open PySem PySem.Spec PyProof.Rows L2

theorem not_ni {z : V} {v : Value} {Q : Value → Shared → Prop} {s' : Shared} (r : RelV z v) (h : Q v s') : PySem.W.CmpBack Q v s' := by
  cases z <;> first | (cases r; exact h) | (obtain ⟨t, e⟩ := r; cases e; exact h)
/-- an instance that H tracks -/
def InsAt (C : Addr) (H : Hp) (a : Addr) : Prop := ∃ dx fs, H a = some (.ins C dx fs)
/-- a value of a built-in type without an address -/
def plT : V → Option String
  | .non => some "NoneType"
  | .bl _ => some "bool"
  | .int _ => some "int"
  | .str _ => some "str"
  | _ => none
theorem plT_of {y : V} {u : Value} {T : String} (r : RelV y u) (h : plT y = some T) : typeOf u = pure (.type T) := by
  cases y with
  | non => cases r; cases h; rfl
  | bl b => cases r; cases h; rfl
  | int i => obtain ⟨t, e⟩ := r; cases e; cases h; rfl
  | str x => obtain ⟨t, e⟩ := r; cases e; cases h; rfl
  | byt x => cases h
  | flt x => cases h
  | ref x => cases h
  | ty x => cases h

section
variable {X : Cx} {pins : List (Addr × Obj)} {σ : L2.St} {H : Hp} {s : Shared} {C a dx : Addr} {fs : List (Str × V)}
theorem inst_of (I : Inv X pins σ H s) (ea : H a = some (.ins C dx fs)) : ∃ ox od, PySem.W.InstAt s.heap a ox C (some od) := by
  obtain ⟨mA, O, _⟩ := ins_get I.hok ea
  obtain ⟨od, J, _⟩ := O.look
  exact ⟨_, od, J⟩
end

/-- C has the operator's method nm as the def at f, and no other way leads past it for values of the types Ts at the right -/
structure OpOwn (K : PySem.W.Frag) (C : Addr) (nm : String) (f : Addr) (Ts : List String) : Prop where
  first : PySem.W.selfFirst K C = true
  at_ : PySem.W.findIn K (.ref C) (PySem.dunder nm) = some (some (.ref f))
  fn : PySem.W.isFn K (.ref f) = true
  refl : PySem.W.findIn K (.ref C) (dunderR nm) = some none
  ts : ∀ T ∈ Ts, (∃ fo, PySem.W.findIn K (.type T) (PySem.dunder nm) = some fo) ∧ (∃ ro, PySem.W.findIn K (.type T) (dunderR nm) = some ro) ∧ PySem.W.subIn K (.type T) (.ref C) = some false
/-- x op y by the method: y an instance of the same class, or a value of one of the types -/
def rOpOwn (C : Addr) (Ts : List String) (sp : Sp) (E : XK) : R2 := fun x y H Q => ∃ a, x = .ref a ∧ InsAt C H a ∧ ((∃ b, y = .ref b ∧ InsAt C H b) ∨ ∃ T, plT y = some T ∧ T ∈ Ts) ∧ sp [x, y] H Q E

section
variable {X : Cx} {CX : CXT} {g : Bool} {k : Nat} {f C : Addr} {fd : FuncData} {ps : List Str} {sp : Sp} {E : XK} {Ts : List String}
theorem op_own {op : Operator} (O : OpOwn X.K C op.info.2 f Ts) (F : FnG X.prog X.w X.K X.mg X.base CX g k f fd ps sp) (hr : Room k X.A) (hg : Clr g X.A) (hb : Binds X.K fd ps []) (hx : Passes CX X E) : OpR X (binaryOp op) (rOpOwn C Ts sp E) := by
  intro pins s σ H x y v u Q I rx ry h
  obtain ⟨a, rfl, ⟨dx, fs, ea⟩, hy, q⟩ := h
  obtain rfl : v = Value.ref a := rx
  obtain ⟨ox, od, J⟩ := inst_of I ea
  obtain ⟨m, Fr0⟩ := I.fr
  have body : wpAny (model X.prog X.w) X.A (call (.ref f) [.ref a, u]) (PySem.W.CmpBack (EP X pins σ Q)) X.xe s :=
    wpAny_mono (run_gX (us := [.ref a, u]) (vs := [.ref a, y]) (dvs := []) F hr hg hb .nil hx I (.cons rfl (.cons ry .nil)) q) (fun w s' z => by
      obtain ⟨z1, H', I', r', q'⟩ := z
      exact not_ni r' ⟨z1, H', I', r', q'⟩) fun _ _ z => z
  rcases hy with ⟨b, rfl, dy, gs, eb⟩ | ⟨T, hT, hm⟩
  · obtain rfl : u = Value.ref b := ry
    obtain ⟨oy, od2, J2⟩ := inst_of I eb
    exact PySem.W.binop_K Fr0 I.ok.mod.kin J J2.type O.first O.at_ O.fn body
  · obtain ⟨⟨fo, h1⟩, ⟨ro, h2⟩, h3⟩ := O.ts T hm
    exact PySem.W.ksp_binT Fr0 I.ok.mod.kin J (plT_of ry hT) O.first O.at_ O.fn O.refl (.inl rfl) h1 h2 h3 body

/-- -x -/
structure UnOwn (K : PySem.W.Frag) (C : Addr) (nm : Str) (f : Addr) : Prop where
  at_ : PySem.W.findIn K (.ref C) nm = some (some (.ref f))
  fn : PySem.W.isFn K (.ref f) = true
def rUnOwn (C : Addr) (sp : Sp) (E : XK) : V → Hp → VK → Prop := fun x H Q => ∃ a, x = .ref a ∧ InsAt C H a ∧ sp [x] H Q E
theorem un_own (O : UnOwn X.K C "__neg__" f) (F : FnG X.prog X.w X.K X.mg X.base CX g k f fd ps sp) (hr : Room k X.A) (hg : Clr g X.A) (hb : Binds X.K fd ps []) (hx : Passes CX X E) : UnR X (unaryOp .USub) (rUnOwn C sp E) := by
  intro pins s σ H x v Q I rx h
  obtain ⟨a, rfl, ⟨dx, fs, ea⟩, q⟩ := h
  obtain rfl : v = Value.ref a := rx
  obtain ⟨ox, od, J⟩ := inst_of I ea
  obtain ⟨m, Fr0⟩ := I.fr
  exact PySem.W.ksp_neg Fr0 I.ok.mod.kin J O.at_ O.fn (run_gX (us := [.ref a]) (vs := [.ref a]) (dvs := []) F hr hg hb .nil hx I (.cons rfl .nil) q)

/-- x == y by the own __eq__ -/
structure EqOwn (K : PySem.W.Frag) (C f : Addr) (Ts : List String) : Prop where
  at_ : PySem.W.findIn K (.ref C) "__eq__" = some (some (.ref f))
  fn : PySem.W.isFn K (.ref f) = true
  ts : ∀ T ∈ Ts, PySem.W.notFirst K C (.type T) = true
theorem op_eqOwn (O : EqOwn X.K C f Ts) (F : FnG X.prog X.w X.K X.mg X.base CX g k f fd ps sp) (hr : Room k X.A) (hg : Clr g X.A) (hb : Binds X.K fd ps []) (hx : Passes CX X E) : OpR X (compareOp .Eq) (rOpOwn C Ts sp E) := by
  intro pins s σ H x y v u Q I rx ry h
  obtain ⟨a, rfl, ⟨dx, fs, ea⟩, hy, q⟩ := h
  obtain rfl : v = Value.ref a := rx
  obtain ⟨ox, od, J⟩ := inst_of I ea
  obtain ⟨m, Fr0⟩ := I.fr
  have body : wpAny (model X.prog X.w) X.A (call (.ref f) [.ref a, u]) (PySem.W.CmpBack (EP X pins σ Q)) X.xe s :=
    wpAny_mono (run_gX (us := [.ref a, u]) (vs := [.ref a, y]) (dvs := []) F hr hg hb .nil hx I (.cons rfl (.cons ry .nil)) q) (fun w s' z => by
      obtain ⟨z1, H', I', r', q'⟩ := z
      exact not_ni r' ⟨z1, H', I', r', q'⟩) fun _ _ z => z
  show wpAny (model X.prog X.w) X.A (richCompare .Eq (.ref a) u) (EP X pins σ Q) X.xe s
  rcases hy with ⟨b, rfl, dy, gs, eb⟩ | ⟨T, hT, hm⟩
  · obtain rfl : u = Value.ref b := ry
    obtain ⟨oy, od2, J2⟩ := inst_of I eb
    exact PySem.W.cmp_K hr.units0 Fr0 I.ok.mod.kin J J2.type (by show (Value.ref C == Value.ref C || _) = true; rw [beq_self_eq_true, Bool.true_or]) O.at_ O.fn body
  · exact PySem.W.cmp_K hr.units0 Fr0 I.ok.mod.kin J (PySem.W.Looks.of_pure (plT_of ry hT)) (O.ts T hm) O.at_ O.fn body
end

/-! ### != where the class has an own __eq__ and object's __ne__ -/
section
open PySem.W
variable {prog : Program} {w : World} {M : Model} {A : Around} {E : Value → Shared → Prop} {s : Shared} {K : Frag} {x C f : Addr} {ox : Obj} {od : Option Obj} {b tb : Value}
theorem bound_b {name : Str} {id : String} {args : List Value} {Q : Option Value → Shared → Prop} (X : K.In s.heap) (I : PySem.W.InstAt s.heap x ox C od) (hs : findIn K (.ref C) name = some (some (.builtin id)))
    (hb : ∀ self, bindSpecial (.builtin id) self = pure (.builtin id, [self])) (h : wpAny M A (call (.builtin id) (.ref x :: args)) (fun v => Q (some v)) E s) : wpAny M A (callSpecialIfBound? (.ref x) name args) Q E s := by
  have fin : wpAny M A (call (.builtin id) ([.ref x] ++ args) >>= fun v => pure (some v)) Q E s := wpAny_bind (wpAny_mono h (fun _ _ z => wpAny_pure z) fun _ _ z => z)
  unfold callSpecialIfBound? bindSpecialIfBound?
  refine wpAny_holding (wpAny_bind (wpAny_bind (wpAny_bind (I.type.here ((looks_findIn X hs).here ?_)))))
  refine wpAny_bind (wpAny_askSetting (wpAny_ite ?_))
  split
  · exact wpAny_bind ((Looks.of_pure (hb _)).here (wpAny_pure (by exact fin)))
  · exact wpAny_tryCatch (wpAny_bind ((Looks.of_pure (hb _)).here (wpAny_pure (by exact fin))))
open Builtin in
theorem obj_ne {Q : Value → Shared → Prop} (hu : A.in1.units < cLine) (X : K.In s.heap) (I : PySem.W.InstAt s.heap x ox C od) (hm : mroIn K C (.type "object") = some true) (hs : findIn K (.ref C) "__eq__" = some (some (.ref f)))
    (hf : isFn K (.ref f) = true) (h : wpAny (model prog w) A.in1 (call (.ref f) [.ref x, b]) (fun v s' => ∃ c, v = .bool c ∧ Q (.bool (!c)) s') E s) : wpAny (model prog w) A (call (.builtin "object.__ne__") [.ref x, b]) Q E s := by
  refine wpAny_call (codeAny_call_builtin PySem.F.cmp_object.ne.plain PySem.F.cmpEntry_ne (check_slot (i := "object.__ne__") (owner := "object") (n := "__ne__") (by decide +kernel) (by decide +kernel) (I.type.andThen (looks_mroIn X hm)) (PySem.F.cmpArgs_ne _ _) ?_))
  unfold Builtin.«object.__ne__»
  refine wpAny_bind (m := slotArgs "__ne__" 1 _) (wpAny_pure ?_)
  refine wpAny_bind (m := cRoomFor _ _) (wpAny_cRoomFor hu ?_)
  refine wpAny_bind (m := callSpecialIfBound? (.ref x) (Str.ofString "__eq__") _) (ifBound_K X I hs hf (wpAny_mono h (fun r s' hq => ?_) fun _ _ y => y))
  obtain ⟨c, rfl, q⟩ := hq
  exact wpAny_bind (wpAny_truthy_bool (wpAny_pure q))
theorem ne_K {Q : Value → Shared → Prop} (hu : A.in1.units < cLine) (X : K.In s.heap) (I : PySem.W.InstAt s.heap x ox C od) (hb : Looks (model prog w) s.heap (typeOf b) tb) (hn : notFirst K C tb = true)
    (hm : mroIn K C (.type "object") = some true) (h2 : findIn K (.ref C) "__ne__" = some (some (.builtin "object.__ne__"))) (hs : findIn K (.ref C) "__eq__" = some (some (.ref f))) (hf : isFn K (.ref f) = true)
    (h : wpAny (model prog w) A.in1 (call (.ref f) [.ref x, b]) (fun v s' => ∃ c, v = .bool c ∧ Q (.bool (!c)) s') E s) : wpAny (model prog w) A (richCompare .NotEq (.ref x) b) Q E s := by
  have one : wpAny (model prog w) A (tryCompare (.ref x) (cmpInfo .NotEq).2.1 b) (fun r s' => ∃ v, r = some v ∧ Q v s') E s := by
    unfold tryCompare
    refine wpAny_bind (bound_b X I h2 PySem.F.cmp_object.ne.bind (obj_ne hu X I hm hs hf (wpAny_mono h (fun v s' hv => ?_) fun _ _ e => e)))
    obtain ⟨c, rfl, q⟩ := hv
    exact ⟨c, rfl, wpAny_pure ⟨_, rfl, q⟩⟩
  have hu0 : A.units < cLine := Nat.lt_of_le_of_lt (Nat.le_succ _) hu
  unfold richCompare
  simp only [oneThing_ref]
  refine wpAny_holding (wpAny_bind (wpAny_cRoomFor hu0 ?_))
  refine wpAny_bind (I.type.here (wpAny_bind (hb.here ?_)))
  split
  · rename_i q
    have e : subIn K tb (.ref C) = some false := by
      rcases Bool.or_eq_true_iff.mp hn with e | e
      · rw [beq_iff_eq.mp e] at q; simp at q
      · exact beq_iff_eq.mp e
    refine wpAny_bind ((looks_subIn X e).here ?_)
    simp only [Bool.false_eq_true, if_false]
    refine wpAny_bind (wpAny_mono one (fun r s' z => ?_) fun _ _ e => e)
    obtain ⟨v, rfl, hq⟩ := z
    exact wpAny_pure hq
  · refine wpAny_bind (wpAny_pure ?_)
    simp only [Bool.false_eq_true, if_false]
    refine wpAny_bind (wpAny_mono one (fun r s' z => ?_) fun _ _ e => e)
    obtain ⟨v, rfl, hq⟩ := z
    exact wpAny_pure hq
end
structure NeOwn (K : PySem.W.Frag) (C f : Addr) (Ts : List String) : Prop where
  eq : EqOwn K C f Ts
  obj : PySem.W.mroIn K C (.type "object") = some true
  ne : PySem.W.findIn K (.ref C) "__ne__" = some (some (.builtin "object.__ne__"))
/-- x != y: what == would hand back, a bool, the other way round -/
def rNeOwn (C : Addr) (Ts : List String) (sp : Sp) (E : XK) : R2 := fun x y H Q => ∃ a, x = .ref a ∧ InsAt C H a ∧ ((∃ b, y = .ref b ∧ InsAt C H b) ∨ ∃ T, plT y = some T ∧ T ∈ Ts) ∧ sp [x, y] H (fun v H' => ∃ c, v = .bl c ∧ Q (.bl (!c)) H') E
section
variable {X : Cx} {CX : CXT} {g : Bool} {k : Nat} {f C : Addr} {fd : FuncData} {ps : List Str} {sp : Sp} {E : XK} {Ts : List String}
theorem op_neOwn (O : NeOwn X.K C f Ts) (F : FnG X.prog X.w X.K X.mg X.base CX g k f fd ps sp) (hr : Room (k + 1) X.A) (hg : Clr g X.A) (hb : Binds X.K fd ps []) (hx : Passes CX X E) : OpR X (compareOp .NotEq) (rNeOwn C Ts sp E) := by
  intro pins s σ H x y v u Q I rx ry h
  obtain ⟨a, rfl, ⟨dx, fs, ea⟩, hy, q⟩ := h
  obtain rfl : v = Value.ref a := rx
  obtain ⟨ox, od, J⟩ := inst_of I ea
  have body : wpAny (model X.prog X.w) X.A.in1 (call (.ref f) [.ref a, u]) (fun v s' => ∃ c, v = .bool c ∧ EP X pins σ Q (.bool (!c)) s') X.xe s :=
    wpAny_mono (run_g (us := [.ref a, u]) (vs := [.ref a, y]) (dvs := []) (E' := X.xe) F hr.in1 (clr_in1 hg) rfl hb .nil hx I (.cons rfl (.cons ry .nil)) q) (fun w s' z => by
      obtain ⟨z1, H', I', r', c, rfl, q'⟩ := z
      cases r'
      exact ⟨c, rfl, .bl (!c), H', I', rfl, q'⟩) fun _ _ z => z
  have hu : X.A.in1.units < cLine := Nat.lt_of_le_of_lt (by show X.A.units + 1 ≤ X.A.units + 64; omega) hr.units
  show wpAny (model X.prog X.w) X.A (richCompare .NotEq (.ref a) u) (EP X pins σ Q) X.xe s
  rcases hy with ⟨b, rfl, dy, gs, eb⟩ | ⟨T, hT, hm⟩
  · obtain rfl : u = Value.ref b := ry
    obtain ⟨oy, od2, J2⟩ := inst_of I eb
    exact ne_K hu I.kIn J J2.type (by show (Value.ref C == Value.ref C || _) = true; rw [beq_self_eq_true, Bool.true_or]) O.obj O.ne O.eq.at_ O.eq.fn body
  · exact ne_K hu I.kIn J (PySem.W.Looks.of_pure (plT_of ry hT)) (O.eq.ts T hm) O.obj O.ne O.eq.at_ O.eq.fn body
/-- str(x), repr(x) of an own class -/
def rStrOwn (C : Addr) (sp : Sp) (E : XK) : List V → Hp → VK → Prop := fun xs H Q => ∃ a, xs = [.ref a] ∧ InsAt C H a ∧ sp [.ref a] H (fun v H' => ∃ z, v = .str z ∧ Q v H') E
theorem str_back {X : Cx} {pins : List (Addr × Obj)} {σ : L2.St} {Q : VK} {v : Value} {s' : Shared} (h : EP X pins σ (fun v H' => ∃ z, v = .str z ∧ Q v H') v s') : PySem.W.StrBack (EP X pins σ Q) v s' := by
  obtain ⟨z1, H', I', r', z, rfl, q⟩ := h
  obtain ⟨t, rfl⟩ := r'
  exact ⟨.str z, H', I', ⟨t, rfl⟩, q⟩
theorem cr_strOwn (O : UnOwn X.K C "__str__" f) (F : FnG X.prog X.w X.K X.mg X.base CX g k f fd ps sp) (hr : Room (k + 2) X.A) (hg : Clr g X.A) (hb : Binds X.K fd ps []) (hx : Passes CX X E) : CallR X (.type "str") (rStrOwn C sp E) := by
  intro pins s σ H xs us Q I r h
  obtain ⟨a, rfl, ⟨dx, fs, ea⟩, q⟩ := h
  obtain ⟨u, rfl, ru⟩ := vals1 r
  obtain rfl : u = Value.ref a := ru
  obtain ⟨ox, od, J⟩ := inst_of I ea
  have hr1 : Room k X.A.in1.in1 := hr.in1.in1
  refine PySem.W.kso_call hr1.units0 I.kIn J O.at_ O.fn ?_
  exact wpAny_mono (run_g (us := [.ref a]) (vs := [.ref a]) (dvs := []) (E' := X.xe) F hr1 (clr_in1 (clr_in1 hg)) rfl hb .nil hx I (.cons rfl .nil) q) (fun _ _ z => str_back z) fun _ _ z => z
theorem cr_reprOwn (O : UnOwn X.K C "__repr__" f) (F : FnG X.prog X.w X.K X.mg X.base CX g k f fd ps sp) (hr : Room (k + 1) X.A) (hg : Clr g X.A) (hb : Binds X.K fd ps []) (hx : Passes CX X E) : CallR X (.builtin "repr") (rStrOwn C sp E) := by
  intro pins s σ H xs us Q I r h
  obtain ⟨a, rfl, ⟨dx, fs, ea⟩, q⟩ := h
  obtain ⟨u, rfl, ru⟩ := vals1 r
  obtain rfl : u = Value.ref a := ru
  obtain ⟨ox, od, J⟩ := inst_of I ea
  obtain ⟨m, Fr0⟩ := I.fr
  have hr1 : Room k X.A.in1 := hr.in1
  refine PySem.W.repr_K hr1.units0 Fr0 I.ok.mod.kin J O.at_ O.fn ?_
  exact wpAny_mono (run_g (us := [.ref a]) (vs := [.ref a]) (dvs := []) (E' := X.xe) F hr1 (clr_in1 hg) rfl hb .nil hx I (.cons rfl .nil) q) (fun _ _ z => str_back z) fun _ _ z => z
end
end LL
/-! LL3: making, repr of data, // of any sign; readings step by step. -/
namespace LL
open PySem PySem.Spec PyProof.Rows L2

section
variable {X : Cx} {CX : CXT} {g : Bool} {k : Nat} {f C : Addr} {fd : FuncData} {ps : List Str} {sp : Sp} {dvs : List V} {ds : List Value} {E : XK} {x : Str} {p pos : Pos} {e : Expr} {es : List Expr} {t : TA}
theorem run_mk {pins : List (Addr × Obj)} {σ : L2.St} {H : Hp} {s : Shared} {Q : VK} {us : List Value} {vs : List V} (M : Mk X.K C f) (F : FnG X.prog X.w X.K X.mg X.base CX g k f fd ps sp) (hr : Room (k + 1) X.A) (hg : Clr g X.A) (hb : Binds X.K fd ps ds) (hd : Vals dvs ds)
    (hx : Passes CX X E) (I : Inv X pins σ H s) (r : Vals vs us)
    (h : ∀ y dy, H y = none → H dy = none → dy ≠ y → sp (.ref y :: (vs ++ dvs)) (upd (upd H dy (.own y)) y (.ins C dy [])) (fun v H2 => v = .non ∧ Q (.ref y) H2) E) :
    wpAny (model X.prog X.w) X.A (call (.ref C) us) (EP X pins σ Q) X.xe s := by
  have want := h (s.heap.objs.size + 1) s.heap.objs.size (I.hok.fresh (Nat.le_succ _)) (I.hok.fresh (Nat.le_refl _)) (Nat.ne_of_lt (Nat.lt_succ_self _))
  have J := Inv.made (C := C) I
  have rr : Vals (V.ref (s.heap.objs.size + 1) :: (vs ++ dvs)) (Value.ref (s.heap.objs.size + 1) :: (us ++ ds)) := .cons rfl (r.append hd)
  have hl : (Value.ref (s.heap.objs.size + 1) :: us ++ ds).length = ps.length := rr.length.symm.trans (F.len _ _ _ _ want)
  have room := hr.make C us []
  refine wpAny_call (make_map (f := f) I.kIn M.makes M.init (beq_iff_eq.mp M.fn) (codeAny_mono (F.run _ X.stack _ _ ⟨Value.ref (s.heap.objs.size + 1) :: us, []⟩ _ _ _ E room (clr_make hg) (J.env0.make C us [])
    (hb _ (Value.ref (s.heap.objs.size + 1) :: us) J.kIn hl) rr want) (fun res s' q => ?_)))
  match res, q with
  | .error er, q => exact hx pins σ _ _ er s' J q
  | .ok (.ret u), q =>
    obtain ⟨v, H', J', rv, ev, q3⟩ := J.after q
    subst ev
    exact ⟨rv, ⟨V.ref (s.heap.objs.size + 1), H', J', rfl, q3⟩⟩
  | .ok .next, q => exact q.elim
  | .ok .brk, q => exact q.elim
  | .ok .cont, q => exact q.elim
/-- C(a, ..) -/
theorem pg_make (M : Mk X.K C f) (F : FnG X.prog X.w X.K X.mg X.base CX g k f fd ps sp) (hr : Room (k + 1) X.A) (hg : Clr g X.A) (hgl : Gl X x) (hm : X.mg x = some (.ref C)) (hb : Binds X.K fd ps ds) (hd : Vals dvs ds) (hx : Passes CX X E)
    (ha : PA X (e :: es) t)
    (hdb : (x == ("__debug__" : Str)) = false := by decide) (he : starEach (e :: es) X.env = (false, eval e X.env) :: starEach es X.env := by rfl)
    (hpl : (backTo pos (starEach es X.env)).any (·.1) = false := by rfl) : PE X (.Call (.Name x p) (e :: es) [] pos) (tMake C sp dvs E t) := by
  constructor
  intro pins s σ H Q I h
  refine wpAny_Call_Name_kw (ld_glob I hgl hm ?_ hdb)
  refine PySem.W.callWith_K (h₀ := X.base) I.ok.mod.kin M.kp (thn (ha.run pos pins s σ H _ I h) ?_) he hpl
  rintro us s1 ⟨vs, H1, I1, r, q⟩
  exact ⟨I1.kIn, run_mk M F hr hg hb hd hx I1 r q⟩
theorem pg_make0 (M : Mk X.K C f) (F : FnG X.prog X.w X.K X.mg X.base CX g k f fd ps sp) (hr : Room (k + 1) X.A) (hg : Clr g X.A) (hgl : Gl X x) (hm : X.mg x = some (.ref C)) (hb : Binds X.K fd ps ds) (hd : Vals dvs ds) (hx : Passes CX X E)
    (hdb : (x == ("__debug__" : Str)) = false := by decide) : PE X (.Call (.Name x p) [] [] pos) (tMake C sp dvs E tNil) := by
  constructor
  intro pins s σ H Q I h
  exact wpAny_Call_Name_kw (ld_glob I hgl hm (PySem.W.callWith_K0 I.kIn M.kp (run_mk (us := []) M F hr hg hb hd hx I .nil h)) hdb)
end

/-! ### repr of data, of a bool -/
def rReprD (K : PySem.W.Frag) : List V → Hp → VK → Prop := fun xs H Q => ∃ a d, xs = [.ref a] ∧ Dp K H (.ref a) d ∧ d.showable = true ∧ d.hasDict = false ∧ d.depth ≤ 16 ∧ d.shown.length ≤ sizeLine ∧ Q (.str d.shown) H
def bText (b : Bool) : Str := if b then "True" else "False"
def rReprB : List V → Hp → VK → Prop := fun xs H Q => ∃ b, xs = [.bl b] ∧ Q (.str (bText b)) H
section
variable {X : Cx}
theorem cr_reprD (hg : Clr true X.A) (hu : X.A.units + 64 < cLine) : CallR X (.builtin "repr") (rReprD X.K) := by
  intro pins s σ H xs us Q I r h
  obtain ⟨a, d, rfl, hd, h1, h2, h3, h4, q⟩ := h
  obtain ⟨u, rfl, ru⟩ := vals1 r
  obtain rfl : u = Value.ref a := ru
  obtain ⟨as, rd⟩ := Dp.reads I d _ _ hd (show RelV (.ref a) (Value.ref a) from rfl)
  refine repr_of_reads' rd h1 (PyData.noDict_hsm h2) (hg rfl) (by omega) (fun _ _ z => z) (fun h' v tk hk => ?_) h4
  exact ⟨.str _, H, I.kept hk, ⟨_, rfl⟩, q⟩
theorem cr_reprB : CallR X (.builtin "repr") rReprB := by
  intro pins s σ H xs us Q I r h
  obtain ⟨b, rfl, q⟩ := h
  obtain ⟨u, rfl, ru⟩ := vals1 r
  obtain rfl : u = Value.bool b := ru
  refine PySem.P.repr_of_bool ⟨.str (bText b), H, I.tok _, ⟨s.toks, ?_⟩, q⟩
  unfold bText
  cases b <;> rfl
end

/-! ### // by any divisor but 0 below 2 ^ 9000 -/
def CDivS (_ j : Int) : Prop := j ≠ 0 ∧ j.natAbs.log2 < 9000
section
variable {X : Cx}
theorem op_fdivS : OpR X (binaryOp .FloorDiv) (rI CDivS fun i j => .int (i.fdiv j)) := opI fun _ _ _ _ _ _ _ hc q => floordiv_int hc.1 q (.inl (PyProof.noPylong_of_log2 hc.2))
end
end LL
/-! LR: readings, one construct at a time: each row takes a goal «reading .. σ H Q» to what is left. -/
namespace LL
open PySem PySem.Spec PyProof.Rows L2

section
variable {σ : L2.St} {H H1 : Hp} {Q : VK} {QA : List V → Hp → Prop} {QB : Bool → Hp → Prop} {QS : L2.St → Hp → Prop} {x y v : V} {ta tb tc : TE} {t u : TT} {tr : TA} {s1 s2 : TS} {i j : Nat} {n : L2.St → Hp → Prop} {r : VK} {b c : L2.St → Hp → Prop} {r2 : R2} {K : PySem.W.Frag} {g : TG} {gs : TGs} {a p : Addr} {xs : List V} {m k : Int} {z : Str} {bb : Bool} {E : XK} {sp : Sp}
/-! names, constants, operators -/
theorem r_var (h : σ[i]? = some (some v)) (q : Q v H) : tVar i σ H Q := ⟨v, h, q⟩
theorem r_c (q : Q v H) : tC v σ H Q := q
theorem r_op (q : ta σ H fun x H1 => tb σ H1 fun y H2 => r2 x y H2 Q) : tOp r2 ta tb σ H Q := q
theorem r_un {ru : V → Hp → VK → Prop} (q : ta σ H fun x H1 => ru x H1 Q) : tUn ru ta σ H Q := q
theorem r_I0 {f : Int → Int → V} (q : Q (f m k) H) : rI0 f (.int m) (.int k) H Q := ⟨m, k, rfl, rfl, q⟩
theorem r_I {C : Int → Int → Prop} {f : Int → Int → V} (h : C m k) (q : Q (f m k) H) : rI C f (.int m) (.int k) H Q := ⟨m, k, rfl, rfl, h, q⟩
theorem r_U {f : Int → V} (q : Q (f m) H) : rU f (.int m) H Q := ⟨m, rfl, q⟩
theorem r_eqI (q : Q (.bl (decide (m = k))) H) : rEq (.int m) (.int k) H Q := ⟨rfl, by
  have e : decide (V.int m = V.int k) = decide (m = k) := by rw [dec_int]; exact Bool.beq_eq_decide_eq ..
  show Q (.bl (decide (V.int m = V.int k))) H
  rw [e]; exact q⟩
theorem r_neI (q : Q (.bl (!decide (m = k))) H) : rNe (.int m) (.int k) H Q := ⟨rfl, by
  have e : decide (V.int m = V.int k) = decide (m = k) := by rw [dec_int]; exact Bool.beq_eq_decide_eq ..
  show Q (.bl (!decide (V.int m = V.int k))) H
  rw [e]; exact q⟩
theorem r_eqS {z z' : Str} (q : Q (.bl (decide (z = z'))) H) : rEq (.str z) (.str z') H Q := ⟨rfl, by
  have e : decide (V.str z = V.str z') = decide (z = z') := by rw [dec_str]; exact Bool.beq_eq_decide_eq ..
  show Q (.bl (decide (V.str z = V.str z'))) H
  rw [e]; exact q⟩
theorem r_neS {z z' : Str} (q : Q (.bl (!decide (z = z'))) H) : rNe (.str z) (.str z') H Q := ⟨rfl, by
  have e : decide (V.str z = V.str z') = decide (z = z') := by rw [dec_str]; exact Bool.beq_eq_decide_eq ..
  show Q (.bl (!decide (V.str z = V.str z'))) H
  rw [e]; exact q⟩
/-! tests -/
theorem r_test (q : ta σ H fun x H' => ∃ k, x = .bl k ∧ QB k H') : tTest ta σ H QB := q
theorem r_tB (q : ta σ H fun x H' => ∃ k, x = .bl k ∧ QB k H') : tB ta σ H QB := q
theorem r_bl (q : QB bb H) : ∃ k, V.bl bb = .bl k ∧ QB k H := ⟨bb, rfl, q⟩
theorem r_and (q : t σ H fun c H1 => if c = true then u σ H1 QB else QB false H1) : tAnd t u σ H QB := q
theorem r_or (q : t σ H fun c H1 => if c = true then QB true H1 else u σ H1 QB) : tOr t u σ H QB := q
theorem r_not (q : t σ H fun c H1 => QB (!c) H1) : tNot t σ H QB := q
theorem r_andV (q : ta σ H fun x H1 => ∃ c, x = .bl c ∧ if c = true then tb σ H1 Q else Q (.bl false) H1) : tAndV ta tb σ H Q := q
theorem r_orV (q : ta σ H fun x H1 => ∃ c, x = .bl c ∧ if c = true then Q (.bl true) H1 else tb σ H1 Q) : tOrV ta tb σ H Q := q
theorem r_notV (q : ta σ H fun x H1 => ∃ c, x = .bl c ∧ Q (.bl (!c)) H1) : tNotV ta σ H Q := q
theorem r_blV {P : Bool → Prop} (q : P bb) : ∃ c, V.bl bb = .bl c ∧ P c := ⟨bb, rfl, q⟩
theorem r_if (q : t σ H fun c H1 => if c = true then ta σ H1 Q else tb σ H1 Q) : tIf t ta tb σ H Q := q
/-- an if by what is decided -/
theorem r_dec {P : Prop} [Decidable P] {A B : Prop} (h1 : P → A) (h2 : ¬ P → B) : if decide P = true then A else B := by
  by_cases h : P
  · rw [decide_eq_true h, if_pos rfl]; exact h1 h
  · rw [decide_eq_false h, if_neg Bool.false_ne_true]; exact h2 h
theorem r_ndec {P : Prop} [Decidable P] {A B : Prop} (h1 : ¬ P → A) (h2 : P → B) : if (!decide P) = true then A else B := by
  by_cases h : P
  · rw [decide_eq_true h, Bool.not_true, if_neg Bool.false_ne_true]; exact h2 h
  · rw [decide_eq_false h, Bool.not_false, if_pos rfl]; exact h1 h
theorem r_yes {A B : Prop} (e : bb = true) (q : A) : if bb = true then A else B := by rw [if_pos e]; exact q
theorem r_no {A B : Prop} (e : bb = false) (q : B) : if bb = true then A else B := by rw [e, if_neg Bool.false_ne_true]; exact q
/-! calls of built-ins, displays -/
theorem r_CB {rc : List V → Hp → VK → Prop} (q : tr σ H fun vs H1 => rc vs H1 Q) : tCB rc tr σ H Q := q
theorem r_nil (q : QA [] H) : tNil σ H QA := q
theorem r_cons (q : ta σ H fun x H1 => tr σ H1 fun xs H2 => QA (x :: xs) H2) : tCons ta tr σ H QA := q
/-- a new object: the heap grows by it -/
theorem r_tup (q : tr σ H fun xs H1 => xs.length ≤ sizeLine ∧ ∀ p H2, H1 p = none → Same H1 H2 → H2 p = some (.tup xs) → (∀ b, b ≠ p → H2 b = H1 b) → Q (.ref p) H2) : tTup tr σ H Q := by
  have e : (fun xs H1 => xs.length ≤ sizeLine ∧ ∀ p H2, H1 p = none → Same H1 H2 → H2 p = some (.tup xs) → (∀ b, b ≠ p → H2 b = H1 b) → Q (.ref p) H2) = (fun xs H1 => xs.length ≤ sizeLine ∧ ∀ p, H1 p = none → Q (.ref p) (upd H1 p (.tup xs))) := by
    funext xs H1
    refine propext ⟨fun ⟨a, z⟩ => ⟨a, fun p hp => z p _ hp (fun b o e => by rw [upd_ne (ne_of_none e hp)]; exact e) upd_same fun b hb => upd_ne hb⟩, fun ⟨a, z⟩ => ⟨a, fun p H2 hp s e ne => ?_⟩⟩
    have : H2 = upd H1 p (.tup xs) := by
      funext b
      by_cases hb : b = p
      · subst hb; rw [e, upd_same]
      · rw [upd_ne hb, ne b hb]
    rw [this]; exact z p hp
  show tr σ H (fun xs H1 => xs.length ≤ sizeLine ∧ ∀ p, H1 p = none → Q (.ref p) (upd H1 p (.tup xs)))
  rw [← e]; exact q
theorem r_lst (q : tr σ H fun xs H1 => xs.length ≤ sizeLine ∧ ∀ p H2, H1 p = none → Same H1 H2 → H2 p = some (.lst xs) → (∀ b, b ≠ p → H2 b = H1 b) → Q (.ref p) H2) : tLst tr σ H Q := by
  have e : (fun xs H1 => xs.length ≤ sizeLine ∧ ∀ p H2, H1 p = none → Same H1 H2 → H2 p = some (.lst xs) → (∀ b, b ≠ p → H2 b = H1 b) → Q (.ref p) H2) = (fun xs H1 => xs.length ≤ sizeLine ∧ ∀ p, H1 p = none → Q (.ref p) (upd H1 p (.lst xs))) := by
    funext xs H1
    refine propext ⟨fun ⟨a, z⟩ => ⟨a, fun p hp => z p _ hp (fun b o e => by rw [upd_ne (ne_of_none e hp)]; exact e) upd_same fun b hb => upd_ne hb⟩, fun ⟨a, z⟩ => ⟨a, fun p H2 hp s e ne => ?_⟩⟩
    have : H2 = upd H1 p (.lst xs) := by
      funext b
      by_cases hb : b = p
      · subst hb; rw [e, upd_same]
      · rw [upd_ne hb, ne b hb]
    rw [this]; exact z p hp
  show tr σ H (fun xs H1 => xs.length ≤ sizeLine ∧ ∀ p, H1 p = none → Q (.ref p) (upd H1 p (.lst xs)))
  rw [← e]; exact q
theorem r_new {o : HO} {R : Addr → Hp → Prop} (hz : xs.length ≤ 100000) (q : ∀ p H2, H p = none → Same H H2 → H2 p = some o → (∀ b, b ≠ p → H2 b = H b) → R p H2) : xs.length ≤ sizeLine ∧ ∀ p H2, H p = none → Same H H2 → H2 p = some o → (∀ b, b ≠ p → H2 b = H b) → R p H2 :=
  ⟨Nat.le_trans hz (by decide), q⟩
/-! items of lists, tuples -/
theorem r_ixL (h : SqL K H p xs) (e : atI xs m = some v) (q : Q v H) : rIxL K (.ref p) (.int m) H Q := ⟨p, xs, m, v, rfl, rfl, h, e, q⟩
theorem r_ixT (h : SqT K H p xs) (e : atI xs m = some v) (q : Q v H) : rIxT K (.ref p) (.int m) H Q := ⟨p, xs, m, v, rfl, rfl, h, e, q⟩
/-! attributes -/
theorem r_fld {f : Str} (q : ta σ H fun x H1 => ∃ a C dx fs v, x = .ref a ∧ H1 a = some (.ins C dx fs) ∧ Cls K C ∧ NoAttr K C f ∧ fs.lookup f = some v ∧ Q v H1) : tFld K ta f σ H Q := q
theorem r_fldAt {C dx : Addr} {fs : List (Str × V)} {f : Str} (h : H a = some (.ins C dx fs)) (c : Cls K C) (na : NoAttr K C f) (e : fs.lookup f = some v) (q : Q v H) :
    ∃ a' C dx fs v, V.ref a = .ref a' ∧ H a' = some (.ins C dx fs) ∧ Cls K C ∧ NoAttr K C f ∧ fs.lookup f = some v ∧ Q v H := ⟨a, C, dx, fs, v, rfl, h, c, na, e, q⟩
theorem r_prop {C : Addr} {dvs : List V} (q : ta σ H fun x H1 => ∃ a dx fs, x = .ref a ∧ H1 a = some (.ins C dx fs) ∧ sp (.ref a :: dvs) H1 Q E) : tProp C sp dvs E ta σ H Q := q
theorem r_propAt {C dx : Addr} {fs : List (Str × V)} {dvs : List V} (h : H a = some (.ins C dx fs)) (q : sp (.ref a :: dvs) H Q E) : ∃ a' dx fs, V.ref a = .ref a' ∧ H a' = some (.ins C dx fs) ∧ sp (.ref a' :: dvs) H Q E := ⟨a, dx, fs, rfl, h, q⟩
/-! calls of defs -/
theorem r_call {dvs : List V} (q : tr σ H fun vs H1 => sp (vs ++ dvs) H1 Q E) : tCall sp dvs E tr σ H Q := q
theorem r_meth {C : Addr} {mm : Str} {dvs : List V} (q : ta σ H fun x H1 => ∃ a dx fs, x = .ref a ∧ H1 a = some (.ins C dx fs) ∧ fs.lookup mm = none ∧ tr σ H1 fun vs H2 => sp (x :: (vs ++ dvs)) H2 Q E) : tMeth C mm sp dvs E ta tr σ H Q := q
theorem r_methAt {C dx : Addr} {fs : List (Str × V)} {mm : Str} {dvs : List V} (h : H a = some (.ins C dx fs)) (e : fs.lookup mm = none) (q : tr σ H fun vs H2 => sp (.ref a :: (vs ++ dvs)) H2 Q E) :
    ∃ a' dx fs, V.ref a = .ref a' ∧ H a' = some (.ins C dx fs) ∧ fs.lookup mm = none ∧ tr σ H fun vs H2 => sp (.ref a :: (vs ++ dvs)) H2 Q E := ⟨a, dx, fs, rfl, h, e, q⟩
theorem r_make {C : Addr} {dvs : List V} (q : tr σ H fun vs H1 => ∀ x dx, H1 x = none → H1 dx = none → dx ≠ x → sp (.ref x :: (vs ++ dvs)) (upd (upd H1 dx (.own x)) x (.ins C dx [])) (fun v H2 => v = .non ∧ Q (.ref x) H2) E) : tMake C sp dvs E tr σ H Q := q
/-! statements -/
theorem r_seq (q : s1 ⟨fun σ H => s2 ⟨n, r, b, c⟩ σ H, r, b, c⟩ σ H) : tSeq s1 s2 ⟨n, r, b, c⟩ σ H := q
theorem r_asg (q : ta σ H fun x H1 => g x σ H1 n) : tAsg ta g ⟨n, r, b, c⟩ σ H := q
theorem r_par (q : tr σ H fun vs H1 => ∃ v w, vs = [v, w] ∧ n ((σ.set i (some v)).set j (some w)) H1) : tPar i j tr ⟨n, r, b, c⟩ σ H := q
theorem r_parAt {w : V} (q : n ((σ.set i (some v)).set j (some w)) H) : ∃ v' w', [v, w] = [v', w'] ∧ n ((σ.set i (some v')).set j (some w')) H := ⟨v, w, rfl, q⟩
theorem r_ret (q : ta σ H r) : tRet ta ⟨n, r, b, c⟩ σ H := q
theorem r_drop (q : ta σ H fun _ H1 => n σ H1) : tDrop ta ⟨n, r, b, c⟩ σ H := q
theorem r_ifS (q : t σ H fun bb H1 => if bb = true then s1 ⟨n, r, b, c⟩ σ H1 else s2 ⟨n, r, b, c⟩ σ H1) : tIfS t s1 s2 ⟨n, r, b, c⟩ σ H := q
theorem r_next (q : n σ H) : tNext ⟨n, r, b, c⟩ σ H := q
theorem r_fieldS {tv : TE} {f : Str} (q : tv σ H fun y H1 => ta σ H1 fun x H2 => ∃ a C dx fs, x = .ref a ∧ H2 a = some (.ins C dx fs) ∧ Cls K C ∧ NoAttr K C f ∧ fs.length < 1000 ∧ n σ (upd H2 a (.ins C dx (putF f y fs)))) : sFld K ta tv f ⟨n, r, b, c⟩ σ H := q
theorem r_fieldAt {C dx : Addr} {fs : List (Str × V)} {f : Str} (h : H a = some (.ins C dx fs)) (cl : Cls K C) (na : NoAttr K C f) (hl : fs.length < 1000) (q : n σ (upd H a (.ins C dx (putF f y fs)))) :
    ∃ a' C dx fs, V.ref a = .ref a' ∧ H a' = some (.ins C dx fs) ∧ Cls K C ∧ NoAttr K C f ∧ fs.length < 1000 ∧ n σ (upd H a' (.ins C dx (putF f y fs))) := ⟨a, C, dx, fs, rfl, h, cl, na, hl, q⟩
/-! targets -/
theorem r_gname (q : QS (σ.set i (some v)) H) : gName i v σ H QS := q
theorem r_gnil (q : QS σ H) : gNil [] σ H QS := ⟨rfl, q⟩
theorem r_gcons (q : g v σ H fun σ' H' => gs xs σ' H' QS) : gCons g gs (v :: xs) σ H QS := ⟨v, xs, rfl, q⟩
theorem r_gtup {l : Nat} (h : SqT K H p xs) (e : xs.length = l) (q : gs xs σ H QS) : gTup K l gs (.ref p) σ H QS := ⟨p, xs, rfl, h, e, q⟩
theorem r_gsub {to ti : TE} {ts : TSet} (q : to σ H fun o H1 => ti σ H1 fun i H2 => ts o i v H2 fun H3 => QS σ H3) : gSub to ti ts v σ H QS := q
/-! texts -/
theorem r_fmt (q : ta σ H fun x H1 => (∃ y : Str, x = .str y ∧ y.length ≤ sizeLine ∧ Q (.str y) H1) ∨ ∃ i : Int, x = .int i ∧ i.natAbs.log2 < 1920 ∧ Q (.str (toString i)) H1) : tFmt ta σ H Q := q
theorem r_fmtI (h : m.natAbs.log2 < 1920) (q : Q (.str (toString m)) H) : (∃ y : Str, V.int m = .str y ∧ y.length ≤ sizeLine ∧ Q (.str y) H) ∨ ∃ i : Int, V.int m = .int i ∧ i.natAbs.log2 < 1920 ∧ Q (.str (toString i)) H := .inr ⟨m, rfl, h, q⟩
theorem r_fmtS (h : z.length ≤ sizeLine) (q : Q (.str z) H) : (∃ y : Str, V.str z = .str y ∧ y.length ≤ sizeLine ∧ Q (.str y) H) ∨ ∃ i : Int, V.str z = .int i ∧ i.natAbs.log2 < 1920 ∧ Q (.str (toString i)) H := .inl ⟨z, rfl, h, q⟩
theorem r_js0 {acc : Str} {QJ : Str → Hp → Prop} (q : QJ acc H) : tJs [] acc σ H QJ := q
theorem r_js {acc : Str} {QJ : Str → Hp → Prop} {ts : List TE} (q : ta σ H fun x H1 => ∃ y : Str, x = .str y ∧ (acc ++ y).length ≤ sizeLine ∧ tJs ts (acc ++ y) σ H1 QJ) : tJs (ta :: ts) acc σ H QJ := q
theorem r_jsAt {acc : Str} {QJ : Str → Hp → Prop} {ts : List TE} (h : (acc ++ z).length ≤ sizeLine) (q : tJs ts (acc ++ z) σ H QJ) : ∃ y : Str, V.str z = .str y ∧ (acc ++ y).length ≤ sizeLine ∧ tJs ts (acc ++ y) σ H QJ := ⟨z, rfl, h, q⟩
end
end LL
/-! LL4: the head by facts of our own, the law's end. -/
namespace LL
open PySem PySem.Spec PyProof.Rows L2

/-! ### facts by Bools -/
/-- the getter of the class's property -/
def pget (K : PySem.W.Frag) (C m : Str) : Addr := match PySem.W.recIn K (He.ma K (He.ga K C) m) "property" with
  | some (.ref f :: _) => f
  | _ => 0
def propB (K : PySem.W.Frag) (C m : Str) : Bool := He.eqO (PySem.W.findIn K (.ref (He.ga K C)) m) (some (some (.ref (He.ma K (He.ga K C) m)))) &&
  (He.eqO (PySem.W.specialIn K (.ref (He.ma K (He.ga K C) m)) "__get__") (some (some (.builtin "property.__get__"))) && (decide (PySem.W.takesIn K (.ref (He.ma K (He.ga K C) m)) = some true) &&
  (match PySem.W.recIn K (He.ma K (He.ga K C) m) "property" with
    | some (.ref _ :: _) => true
    | _ => false)))
theorem propB_ok {K : PySem.W.Frag} {C m : Str} (h : propB K C m = true) : PropOf K (He.ga K C) m (He.ma K (He.ga K C) m) (pget K C m) := by
  obtain ⟨h1, h⟩ := He.ba h
  obtain ⟨h2, h⟩ := He.ba h
  obtain ⟨h3, h4⟩ := He.ba h
  refine ⟨He.eqO_ok h1, He.eqO_ok h2, of_decide_eq_true h3, ?_⟩
  unfold pget
  split at h4
  · rename_i f r e
    exact ⟨r, by rw [e]⟩
  · cases h4
def bltB (K : PySem.W.Frag) (x : Str) (id : String) : Bool := He.eqO (PySem.W.nsIn K mainGlobals x) (some (some (.builtin id)))
theorem bltB_ok {K : PySem.W.Frag} {h : Heap} {mg : Str → Option Value} (X : K.In h) (G : h.Ns mainGlobals mg) {x : Str} {id : String} (c : bltB K x id = true) : mg x = some (.builtin id) := PySem.W.mg_of X G (He.eqO_ok c)
def fnB (K : PySem.W.Frag) (C m : Str) : Bool := He.eqO (PySem.W.findIn K (.ref (He.ga K C)) m) (some (some (.ref (He.ma K (He.ga K C) m)))) && PySem.W.isFn K (.ref (He.ma K (He.ga K C) m))
theorem fnB_ok {K : PySem.W.Frag} {C m : Str} (h : fnB K C m = true) : UnOwn K (He.ga K C) m (He.ma K (He.ga K C) m) := by
  obtain ⟨h1, h2⟩ := He.ba h
  exact ⟨He.eqO_ok h1, h2⟩
def opB (K : PySem.W.Frag) (C : Str) (nm : String) (Ts : List String) : Bool := PySem.W.selfFirst K (He.ga K C) && (fnB K C (PySem.dunder nm) && (He.eqO (PySem.W.findIn K (.ref (He.ga K C)) (dunderR nm)) (some none) &&
  Ts.all fun T => (PySem.W.findIn K (.type T) (PySem.dunder nm)).isSome && ((PySem.W.findIn K (.type T) (dunderR nm)).isSome && decide (PySem.W.subIn K (.type T) (.ref (He.ga K C)) = some false))))
theorem opB_ok {K : PySem.W.Frag} {C : Str} {nm : String} {Ts : List String} (h : opB K C nm Ts = true) : OpOwn K (He.ga K C) nm (He.ma K (He.ga K C) (PySem.dunder nm)) Ts := by
  obtain ⟨h1, h⟩ := He.ba h
  obtain ⟨h2, h⟩ := He.ba h
  obtain ⟨h3, h4⟩ := He.ba h
  have u := fnB_ok h2
  refine ⟨h1, u.at_, u.fn, He.eqO_ok h3, fun T hT => ?_⟩
  obtain ⟨a, b⟩ := He.ba (List.all_eq_true.mp h4 T hT)
  obtain ⟨b, c⟩ := He.ba b
  exact ⟨Option.isSome_iff_exists.mp a, Option.isSome_iff_exists.mp b, of_decide_eq_true c⟩
def eqB (K : PySem.W.Frag) (C : Str) (Ts : List String) : Bool := fnB K C "__eq__" && Ts.all fun T => PySem.W.notFirst K (He.ga K C) (.type T)
theorem eqB_ok {K : PySem.W.Frag} {C : Str} {Ts : List String} (h : eqB K C Ts = true) : EqOwn K (He.ga K C) (He.ma K (He.ga K C) "__eq__") Ts := by
  obtain ⟨h1, h2⟩ := He.ba h
  have u := fnB_ok h1
  exact ⟨u.at_, u.fn, fun T hT => List.all_eq_true.mp h2 T hT⟩
def neB (K : PySem.W.Frag) (C : Str) (Ts : List String) : Bool := eqB K C Ts && (decide (PySem.W.mroIn K (He.ga K C) (.type "object") = some true) && He.eqO (PySem.W.findIn K (.ref (He.ga K C)) "__ne__") (some (some (.builtin "object.__ne__"))))
theorem neB_ok {K : PySem.W.Frag} {C : Str} {Ts : List String} (h : neB K C Ts = true) : NeOwn K (He.ga K C) (He.ma K (He.ga K C) "__eq__") Ts := by
  obtain ⟨h1, h⟩ := He.ba h
  obtain ⟨h2, h3⟩ := He.ba h
  exact ⟨eqB_ok h1, of_decide_eq_true h2, He.eqO_ok h3⟩
/-- what isinstance asks of an own class -/
structure IsiOwn (K : PySem.W.Frag) (C : Addr) : Prop where
  ha : PySem.W.findIn K (.ref C) "__class__" = some (some (.builtin "object.__class__"))
  hn : PySem.W.specialIn K (.builtin "object.__class__") "__get__" = some (some (.builtin "getset_descriptor.__get__"))
  ht : PySem.W.takesIn K (.builtin "object.__class__") = some true
  hm : PySem.W.mroIn K C (.type "object") = some true
def isiB (K : PySem.W.Frag) (C : Str) : Bool := He.eqO (PySem.W.findIn K (.ref (He.ga K C)) "__class__") (some (some (.builtin "object.__class__"))) && (He.eqO (PySem.W.specialIn K (.builtin "object.__class__") "__get__") (some (some (.builtin "getset_descriptor.__get__"))) &&
  (decide (PySem.W.takesIn K (.builtin "object.__class__") = some true) && decide (PySem.W.mroIn K (He.ga K C) (.type "object") = some true)))
theorem isiB_ok {K : PySem.W.Frag} {C : Str} (h : isiB K C = true) : IsiOwn K (He.ga K C) := by
  obtain ⟨h1, h⟩ := He.ba h
  obtain ⟨h2, h⟩ := He.ba h
  obtain ⟨h3, h4⟩ := He.ba h
  exact ⟨He.eqO_ok h1, He.eqO_ok h2, of_decide_eq_true h3, of_decide_eq_true h4⟩
/-- isinstance(a value of type T, the class C): the answer b -/
def kitTB (K : PySem.W.Frag) (T : String) (C : Str) (b : Bool) : Bool := decide (PySem.W.kitOne K (.type T) (.ref (He.ga K C)) = some b)
theorem kitTB_ok {K : PySem.W.Frag} {T : String} {C : Str} {b : Bool} (h : kitTB K T C b = true) : PySem.W.kitOne K (.type T) (.ref (He.ga K C)) = some b := of_decide_eq_true h
theorem kit_self {K : PySem.W.Frag} {C : Addr} : PySem.W.kitOne K (.ref C) (.ref C) = some true := by
  unfold PySem.W.kitOne
  rw [if_pos (beq_self_eq_true _)]

/-! ### the hook -/
def obsLG (n : Nat) (fa : List He.Fa) (fn : List He5.DefA) (ex : PySem.W.Frag → Bool) (g : Addr → Option Obj) : He.AlD × Bool := (He5.obsAG n fa fn g, ex (He.frG g (He5.asA g n)))
def hookL (n : Nat) (fa : List He.Fa) (fn : List He5.DefA) (ex : PySem.W.Frag → Bool) : PySem.W.Hook where
  α := He.AlD × Bool
  obs := fun s => obsLG n fa fn ex s.heap.get?
  val := fun _ => (He5.valA fn, true)
  says := fun _ h => ∃ K : PySem.W.Frag, K.In h ∧ He5.SaysA fa fn K ∧ ex K = true
  of := fun _ s e => ⟨_, He.frG_in, congrArg Prod.fst e, congrArg Prod.snd e⟩
  keeps := fun _ _ _ ⟨K, hK, c, x⟩ k => ⟨K, PySem.W.Frag.In.keeps hK k, c, x⟩
theorem obsLG_eq {n : Nat} {fa : List He.Fa} {fn : List He5.DefA} {ex : PySem.W.Frag → Bool} {g : Addr → Option Obj} {s : Shared} (h : ∀ a, g a = s.heap.get? a) : obsLG n fa fn ex g = (hookL n fa fn ex).obs s := by
  have e : g = s.heap.get? := funext h
  subst e
  rfl

/-! ### the law's call -/
theorem law_g {P : Program} {w : World} {K : PySem.W.Frag} {mg mb : Str → Option Value} {CX : CXT} {g : Bool} {k : Nat} {fa a : Addr} {fd : FuncData} {x : Str} {sp : Sp} {s0 : Shared} {us : List Value} {ns : List Int}
    (KX : K.In s0.heap) (G : s0.heap.Ns mainGlobals mg) (B : s0.heap.Ns builtinsNs mb) (BB : ∀ x : Str, x ≠ "__name__" → mb x = bootBuiltins x) (L : s0.heap.NoLimit) (gens : s0.gens = #[])
    (ha : s0.heap.get? a = some { cls := .type "list", data := .seq us.toArray }) (hi : IntsAre us ns) (hl : ns.length ≤ sizeLine) (room : Room k callerA)
    (F : ∀ base : Heap, K.In base → base.Ns mainGlobals mg → FnG P w K mg base CX g k fa fd [x] sp) (bind : ∀ (s : Shared) (u : Value), BindsTo s fd ⟨[u], []⟩ [(x, u)])
    (want : ∀ H : Hp, Only H → SqL K H a (ns.map V.int) → sp [.ref a] H (fun v _ => v = .bl true) fun _ _ _ => False) (none_ : ∀ H e s', CX [] H s0 (fun _ _ _ => False) e s' → False) :
    codeAny (model P w) callerA (.call (.ref fa) ⟨[.ref a], []⟩) (fun r s' => r = .ok (.ret (.bool true)) ∧ OldK s0.heap s'.heap ∧ s'.os = s0.os ∧ AllBare s'.gens) s0 := by
  have rel := vals_ints hi
  have go : ∀ H : Hp, Only H → SqL K H a (ns.map V.int) → HOk P w H s0.heap → (∀ b, H b ≠ none → b = a) → (H a ≠ none → K.lookup a = none) →
      codeAny (model P w) callerA (.call (.ref fa) ⟨[.ref a], []⟩) (fun r s' => r = .ok (.ret (.bool true)) ∧ OldK s0.heap s'.heap ∧ s'.os = s0.os ∧ AllBare s'.gens) s0 := by
    intro H only seq hok onlyA freeK
    have isA : ∀ {b : Addr} {u : HO}, H b = some u → b = a := fun {b u} e => onlyA b (fun z => by rw [e] at z; cases z)
    have dictFree : ∀ {b : Addr} {o : Obj} {es : Array DictEntry} {ep : Nat}, s0.heap.get? b = some o → o.data = .dict es ep → H b = none := by
      intro b o es ep e d
      match q : H b with
      | none => rfl
      | some u =>
        have e1 := isA q
        rw [e1, ha] at e
        cases e
        cases d
    have up : ∀ {b : Addr} {m : Str → Option Value}, s0.heap.Ns b m → (hidT s0.heap H).Ns b m := by
      rintro b m ⟨o, es, ep, e, d, r⟩
      exact ⟨o, es, ep, hidT_get e (dictFree e d), d, r⟩
    have KB : K.In (hidT s0.heap H) := by
      intro b o e
      refine hidT_get (KX b o e) ?_
      match q : H b with
      | none => rfl
      | some u =>
        have e1 := isA q
        rw [e1] at q e
        rw [freeK (fun z => by rw [q] at z; cases z)] at e
        cases e
    obtain ⟨mc, l1, l2⟩ := L
    have M : Mod K mg (hidT s0.heap H) := ⟨KB, up G, ⟨mb, up B, BB⟩, ⟨mc, up l1, l2⟩⟩
    have e0 : Env0 P w K mg (hidT s0.heap H) callerA [] s0 H := ⟨rfl, M, fun _ _ e => of_hidT e, Nat.le_of_eq (hidT_size _ _), trivial, (fun b hb => nomatch hb), hok, .of_eq gens⟩
    refine codeAny_mono ((F _ KB (up G)).run callerA [] s0 H ⟨[.ref a], []⟩ [.ref a] [.ref a] _ _ room (fun _ => rfl) e0 (bind s0 (.ref a)) (.cons rfl .nil) (want H only seq)) ?_
    intro r s' h
    match r, h with
    | .error e, h => exact (none_ H e s' h).elim
    | .ok .next, h => exact h.elim
    | .ok .brk, h => exact h.elim
    | .ok .cont, h => exact h.elim
    | .ok (.ret u), h =>
      obtain ⟨v, H', os, bare, un, hok', rv, ev⟩ := h
      have ev : v = V.bl true := ev
      subst ev
      obtain rfl : u = Value.bool true := rv
      refine ⟨rfl, OldK.of_keep (fun b o e => ?_), os, bare⟩
      rcases only b with q | ⟨ob, xs, q⟩
      · exact un.keep b o e q (fun z => nomatch z) (by simp)
      · have z1 := (hok b _ q).1
        have z2 := (hok' b _ (un.frzs b ob _ q)).1
        rw [e] at z1
        cases z1
        exact z2
  match hk : K.lookup a with
  | some o =>
    have e := KX a o hk
    rw [ha] at e
    cases e
    have lenV := hi.length
    exact go (fun _ => none) (fun _ => .inl rfl) (.inr ⟨_, us.toArray, _, hk, rfl, rfl, rfl, by rw [List.size_toArray, lenV]; exact hl, by simpa using rel⟩) (fun b u z => nomatch z) (fun b z => (z rfl).elim) (fun z => (z rfl).elim)
  | none =>
    have at_ : (upd (fun _ => none) a (.frz { cls := .type "list", data := .seq us.toArray } (.lst (ns.map V.int)))) a = some (HO.frz { cls := .type "list", data := .seq us.toArray } (.lst (ns.map V.int))) := upd_same
    have off : ∀ b, b ≠ a → (upd (fun _ => none) a (.frz { cls := .type "list", data := .seq us.toArray } (.lst (ns.map V.int)))) b = none := fun b hb => upd_ne hb
    refine go (upd (fun _ => none) a (.frz { cls := .type "list", data := .seq us.toArray } (.lst (ns.map V.int)))) (fun b => ?_) (.inl (.inr ⟨_, at_⟩)) (fun b u z => ?_) (fun b z => ?_) (fun _ => hk)
    · by_cases hb : b = a
      · subst hb; exact .inr ⟨_, _, at_⟩
      · exact .inl (off b hb)
    · by_cases hb : b = a
      · subst hb
        rw [at_] at z
        cases z
        exact ⟨ha, by rw [List.length_map]; exact hl, us, _, rel, ha⟩
      · rw [off b hb] at z
        cases z
    · by_cases hb : b = a
      · exact hb
      · exact (z (off b hb)).elim
/-- a name that the text imports from math -/
theorem xl_fn {q : Program} {mg : Str → Option Value} {h : Heap} {x : Str} {id : String} (XX : PySem.W.XL q [] mg h) (hx : (Flt.mathDrawn q).lookup x = some (.fn id)) : mg x = some (.builtin id) :=
  XX.1.drawn (x, .fn id) (PySem.mem_of_lookup hx)
theorem walk_g {l : PySem.W.OpenLaw} {n k : Nat} {g : Bool} {q : Program} {loose : List Str} {XP : (Str → Option Value) → Heap → Prop} {YP : World → Heap → Prop} {d : DefRec} {CX : CXT} {x : Str}
    (hn : l.most = some n) (hn2 : n ≤ sizeLine) (hdf : d.params.defaults = []) (room : Room k callerA)
    (F : ∀ (w : World) (mg : Str → Option Value) (fa : Addr) (h : Heap), YP w h → XP mg h → h.Ns mainGlobals mg → mg d.name = some (.ref fa) →
      ∃ (K : PySem.W.Frag) (fd : FuncData) (sp : Sp), K.In h ∧ (∀ (s : Shared) (u : Value), BindsTo s fd ⟨[u], []⟩ [(x, u)]) ∧
        (∀ (H : Hp) (a : Addr) (ns : List Int), ns.length ≤ n → Only H → SqL K H a (ns.map V.int) → sp [.ref a] H (fun v _ => v = .bl true) fun _ _ _ => False) ∧
        ∀ base : Heap, K.In base → base.Ns mainGlobals mg → FnG l.prog w K mg base CX g k fa fd [x] sp)
    (none_ : ∀ (H : Hp) (s : Shared) (e : Value) (s' : Shared), CX [] H s (fun _ _ _ => False) e s' → False) : PySem.W.WalkO q loose XP YP l.row.toRowW d [] (fun f vs => PySem.call f vs) := by
  refine Att.attach_call hn hdf ?_
  intro w s0 s1 mg mb fa o pm cd doc a us ns G Y ho hd hcd hmg hobj hints hlen gens
  obtain ⟨K, fd, sp, KX, hb, hsp, hF⟩ := F w mg fa _ Y G.X G.T.g hmg
  exact law_g KX G.T.g G.T.b G.T.builtins G.T.nolimit gens hobj hints (Nat.le_trans hlen hn2) room hF hb (fun H only seq => hsp H a ns hlen only seq) (fun H e s' => none_ H s1 e s')
end LL
/-! LL5: the head of a program that begins with imports: the imports and the top in one kernel run over the heap as a tree. -/
noncomputable section
namespace LL
open PySem PySem.W PySem.Calls PyProof.Rows HandSHeadRun

def impF (st : SharedT → Thread → Option (SharedT × Thread)) : Nat → SharedT → Thread → Option SharedT
  | 0, _, _ => none
  | m + 1, s, t => match t.atExitBegin with
    | some [] => some s
    | some (_ :: _) => none
    | none => match st s t with
      | some (s', t') => frS s' fun s' => impF st m s' t'
      | none => none
theorem impF_ok {tb : String → Option Builtin} {p : Program} {w : World} : ∀ {m : Nat} {s s' : SharedT} {t : Thread}, impF (stepT (denote tb) p w) m s t = some s' → importEnds tb p w m s.abs t = some s'.abs
  | 0, _, _, _, h => nomatch h
  | m + 1, s, s', t, h => by
    unfold impF at h
    unfold importEnds
    match hx : t.atExitBegin, h with
    | some [], h => cases h; rfl
    | some (_ :: _), h => cases h
    | none, h =>
      match hs : stepT (denote tb) p w s t, h with
      | none, h => cases h
      | some (s2, t2), h =>
        have h2 : frS s2 (fun s' => impF (stepT (denote tb) p w) m s' t2) = some s' := h
        rw [frS_eq] at h2
        have q := impF_ok h2
        show (match step (denote tb) p w s.abs t with
          | .go s' t' => importEnds tb p w m s' t'
          | .halt _ _ => none) = some s'.abs
        rw [stepT_spec hs]
        exact q
/-- the state at the very start -/
def startT (p : Program) : SharedT := ⟨.nil, 0, ({} : Heap).life, #[], {}, 1, { stdin := p.given.stdin.toArray }⟩
theorem startT_abs (p : Program) : (startT p).abs = (start p).1 := rfl
/-- a state as a tree -/
def treeOf (s : Shared) : Option SharedT := match putAll s.heap.objs.toList .nil 0 with
  | some (t, n) => frNat n fun n => some ⟨t, n, s.heap.life, s.gens, s.drawn, s.toks, s.os⟩
  | none => none
theorem treeOf_ok {s : Shared} {t : SharedT} (h : treeOf s = some t) : t.abs = s := by
  unfold treeOf at h
  match e : putAll s.heap.objs.toList .nil 0, h with
  | none, h => cases h
  | some (b, n), h =>
    have h2 : frNat n (fun n => some (⟨b, n, s.heap.life, s.gens, s.drawn, s.toks, s.os⟩ : SharedT)) = some t := h
    rw [frNat_eq] at h2
    cases h2
    show (⟨absHeap b n s.heap.life, s.gens, s.drawn, s.toks, s.os⟩ : Shared) = s
    rw [putAll_heap e]
/-- behind the imports, fenced -/
def openT (st : Program → SharedT → Thread → Option (SharedT × Thread)) (N : Nat) (p : Program) : Option SharedT := match impF (st (opening p)) N (startT (opening p)) (start (opening p)).2 with
  | some s0 => (match fenceModules? p s0.abs with
    | some s1 => treeOf s1
    | none => none)
  | none => none
/-- behind the top -/
def topT (st : Program → SharedT → Thread → Option (SharedT × Thread)) (M : Nat) (p : Program) (s : SharedT) : Option SharedT := match s.abs.heap.isNs mainGlobals && s.gens.size == 0 with
  | true => frNat s.n fun n0 => goF (st p) n0 (s.abs.heap.nsMap mainGlobals "__annotations__") M s (topStub p)
  | false => none
def endT (st : Program → SharedT → Thread → Option (SharedT × Thread)) (N M : Nat) (p : Program) : Option (SharedT × SharedT) := match openT st N p with
  | some s => (match topT st M p s with
    | some s' => some (s, s')
    | none => none)
  | none => none
theorem abs_size (s : SharedT) : s.abs.heap.objs.size = s.n := absHeap_size s.tree s.n s.life
theorem left_imp {p q : Program} {loose : List Str} {Xt : Shared → Bool} {α : Type} {Yf : Shared → α} {Ya : World → α} {N M : Nat} (le : Nat.ble M N = true)
    (run : ∀ w : World, (endT (fun p => stepT (denote treeTable) p w) N M p).map (fun r => (looksF p r.1.abs.heap r.2.abs, openSeen q loose (importedModules p.main.body) Xt true r.2.abs, Yf r.2.abs)) = some (true, openGood q loose, Ya w)) :
    LeftO p q loose Xt Yf Ya N true := by
  intro w
  obtain ⟨⟨s1, s⟩, e, hv⟩ := Option.map_eq_some_iff.mp (run w)
  obtain ⟨l1, l2, l3⟩ : _ ∧ _ ∧ _ := by simpa only [Prod.mk.injEq] using hv
  -- the opening
  unfold endT at e
  match ho : openT (fun p => stepT (denote treeTable) p w) N p, e with
  | none, e => cases e
  | some sA, e =>
    have e1 : (match topT (fun p => stepT (denote treeTable) p w) M p sA with
      | some s' => some (sA, s')
      | none => none) = some (s1, s) := e
    match ht : topT (fun p => stepT (denote treeTable) p w) M p sA, e1 with
    | none, e1 => cases e1
    | some sB, e1 =>
      cases e1
      have fo : fencedOpening treeTable p w N = some s1.abs := by
        unfold openT at ho
        match hi : impF (stepT (denote treeTable) (opening p) w) N (startT (opening p)) (start (opening p)).2, ho with
        | none, ho => cases ho
        | some s0, ho =>
          have h1 : (match fenceModules? p s0.abs with
            | some s1 => treeOf s1
            | none => none) = some s1 := ho
          match hf : fenceModules? p s0.abs, h1 with
          | none, h1 => cases h1
          | some s2, h1 =>
            have h2 : treeOf s2 = some s1 := h1
            unfold fencedOpening
            have q := impF_ok hi
            rw [startT_abs] at q
            rw [q]
            show fenceModules? p s0.abs = some s1.abs
            rw [hf, treeOf_ok h2]
      have tf : topFrom treeTable p w N s1.abs = some s.abs := by
        unfold topT at ht
        unfold topFrom
        match hb : (s1.abs.heap.isNs mainGlobals && s1.gens.size == 0), ht with
        | false, ht => cases ht
        | true, ht =>
          have h1 : frNat s1.n (fun n0 => goF (stepT (denote treeTable) p w) n0 (s1.abs.heap.nsMap mainGlobals "__annotations__") M s1 (topStub p)) = some s := ht
          rw [frNat_eq] at h1
          have r := topRun_mono (N - M) _ _ _ _ (goF_ok h1)
          rw [show M + (N - M) = N by have := Nat.le_of_ble_eq_true le; omega] at r
          show (topRun treeTable p w s1.abs.heap.objs.size (s1.abs.heap.nsMap mainGlobals "__annotations__") N s1.abs (topStub p)).bind _ = _
          rw [abs_size, r]
          have l1' : (staticsOk (importedModules p.main.body) s1.abs.heap s.abs.heap && namesBound p s.abs.heap && gensDone s.abs && laidKept s1.abs.heap s.abs.heap) = true := l1
          show (match staticsOk (importedModules p.main.body) s1.abs.heap s.abs.heap && namesBound p s.abs.heap && gensDone s.abs && laidKept s1.abs.heap s.abs.heap with | true => some s.abs | false => none) = _
          rw [l1']
      unfold openEnds
      rw [fo]
      show (topFrom treeTable p w N s1.abs).map _ = _
      rw [tf]
      exact congrArg some (Prod.ext l2 l3)
/-- the run's equation, by the library's twins -/
def RunI (r : OpenRow) (q : Program) (H : Hook) (ob : SharedT → H.α) (N M : Nat) (loose : List PySem.Str) (w : World) : Prop :=
  (endT (fun p => stepQ (denQ tabQ) p w) N M r.prog).map (fun z => (looksF r.prog z.1.abs.heap z.2.abs, seenQ q loose (importedModules r.prog.main.body) (fun s => xlAt q [] s && recOk r.toRowW.records s) z.2.abs, ob z.2)) = some (true, openGood q loose, H.val w)
theorem head_imp {r : OpenRow} {q : Program} {H : Hook} {ob : SharedT → H.α} {N M : Nat} {loose : List PySem.Str} {d : DefRec} {kwd : List (PySem.Str × PySem.Expr)} (ho : ∀ s : SharedT, ob s = H.obs s.abs) (le : Nat.ble M N = true)
    (run : ∀ w, RunI r q H ob N M loose w)
    (hdef : defOf q r.name = some (d, kwd)) (hp : r.prog.theDef r.name = some (d.params, d.body, d.scope)) (hk : kwWritten? d.params.kwonlyargs d.params.kw_defaults = some kwd)
    (hwr : (!r.writes || r.records.isEmpty) = true) (k1 : r.wellSaid = true) (ok : (chainsOk q && opensWell r.prog && (frees r.toRowW && r.within.isEmpty)) = true) (hb : r.prog.bare) (hw : r.toRowW.promised)
    (call : WalkO q loose (XL q []) H.says r.toRowW d kwd fun f vs => PySem.call f vs) : r.Holds := by
  have left : LeftO r.prog q loose (fun s => xlAt q [] s && recOk r.toRowW.records s) H.obs H.val N true := left_imp (M := M) le fun w => by
    have z := run w
    have eo : ob = fun s => H.obs s.abs := funext ho
    unfold RunI at z
    rw [eo] at z
    simp only [stepQ_eq, denQ_eq, tabQ_eq, seenQ_eq]
    exact z
  exact holds_open (r := r) (q := q) (loose := loose) (XP := XL q []) (YP := H.says) (d := d) (kwd := kwd) left H.of H.keeps (fun s z => xl_of s (Bool.and_eq_true_iff.mp z).1) XL.keeps hdef hp hk (fun s z => recFacts_of (Bool.and_eq_true_iff.mp z).2) hwr k1 ok hb hw call
end LL
/-! LR2: more readings; sizes; the fraction in lowest terms. -/
namespace LL
open PySem PySem.Spec PyProof.Rows L2

section
variable {σ : L2.St} {H H1 : Hp} {Q : VK} {K : PySem.W.Frag} {x c v : V} {t u : Value} {b : Bool} {m k : Int} {xs : List V} {p : Addr}
theorem r_isi (ht : TyX K H x t) (hc : ClsV c u) (hk : PySem.W.kitOne K t u = some b) (q : Q (.bl b) H) : rIsi K [x, c] H Q := ⟨x, c, t, u, b, rfl, hc, ht, hk, q⟩
theorem ty_int {i : Int} : TyX K H (.int i) (.type "int") := .base (.int i)
theorem ty_own {a C dx : Addr} {fs : List (Str × V)} (e : H a = some (.ins C dx fs)) (cl : Cls K C) (o : IsiOwn K C) : TyX K H (.ref a) (.ref C) := .base (.ins e cl o.ha o.hn o.ht o.hm)
theorem r_notB {QB : V → Hp → Prop} (q : QB (.bl (!b)) H) : ∃ c, V.bl b = .bl c ∧ QB (.bl (!c)) H := ⟨b, rfl, q⟩
theorem r_gcd (q : Q (.int ((Nat.gcd m.natAbs k.natAbs : Nat) : Int)) H) : rGcd [.int m, .int k] H Q := ⟨m, k, rfl, q⟩
theorem r_abs (q : Q (.int (if m < 0 then -m else m)) H) : (fun xs H Q => ∃ i, xs = [V.int i] ∧ Q (V.int (if i < 0 then -i else i)) H) [.int m] H Q := ⟨m, rfl, q⟩
theorem r_max (q : Q (.int (if k > m then k else m)) H) : (fun xs H Q => ∃ i j, xs = [V.int i, V.int j] ∧ Q (V.int (if j > i then j else i)) H) [.int m, .int k] H Q := ⟨m, k, rfl, q⟩
theorem r_min (q : Q (.int (if k < m then k else m)) H) : (fun xs H Q => ∃ i j, xs = [V.int i, V.int j] ∧ Q (V.int (if j < i then j else i)) H) [.int m, .int k] H Q := ⟨m, k, rfl, q⟩
theorem r_int (q : Q (.int m) H) : (fun xs H Q => (∃ i, xs = [V.int i] ∧ Q (V.int i) H) ∨ ∃ k, xs = [V.bl k] ∧ Q (V.int (if k then 1 else 0)) H) [.int m] H Q := .inl ⟨m, rfl, q⟩
theorem r_intB (q : Q (.int (if b then 1 else 0)) H) : (fun xs H Q => (∃ i, xs = [V.int i] ∧ Q (V.int i) H) ∨ ∃ k, xs = [V.bl k] ∧ Q (V.int (if k then 1 else 0)) H) [.bl b] H Q := .inr ⟨b, rfl, q⟩
theorem r_strI (h : m.natAbs.log2 < 1920) (q : Q (.str (toString m)) H) : (fun xs H Q => ∃ i, xs = [V.int i] ∧ i.natAbs.log2 < 1920 ∧ Q (V.str (toString i)) H) [.int m] H Q := ⟨m, rfl, h, q⟩
theorem r_lenL (h : SqL K H p xs) (q : Q (.int xs.length) H) : (fun vs H Q => ∃ p ys, vs = [V.ref p] ∧ (SqL K H p ys ∨ SqT K H p ys) ∧ Q (V.int ys.length) H) [.ref p] H Q := ⟨p, xs, rfl, .inl h, q⟩
theorem r_lenT (h : SqT K H p xs) (q : Q (.int xs.length) H) : (fun vs H Q => ∃ p ys, vs = [V.ref p] ∧ (SqL K H p ys ∨ SqT K H p ys) ∧ Q (V.int ys.length) H) [.ref p] H Q := ⟨p, xs, rfl, .inr h, q⟩
theorem r_addS {z z' : Str} (h : z.length + z'.length ≤ sizeLine) (q : Q (.str (z ++ z')) H) : (fun x y H Q => ∃ i j, x = V.str i ∧ y = V.str j ∧ i.length + j.length ≤ sizeLine ∧ Q (V.str (i ++ j)) H) (.str z) (.str z') H Q := ⟨z, z', rfl, rfl, h, q⟩
theorem r_reprB (q : Q (.str (bText b)) H) : rReprB [.bl b] H Q := ⟨b, rfl, q⟩
theorem r_reprD {d : PyData} (hd : Dp K H (.ref p) d) (h1 : d.showable = true) (h2 : d.hasDict = false) (h3 : d.depth ≤ 16) (h4 : d.shown.length ≤ sizeLine) (q : Q (.str d.shown) H) : rReprD K [.ref p] H Q := ⟨p, d, rfl, hd, h1, h2, h3, h4, q⟩
theorem r_eqD {y : V} {d e : PyData} (hd : Dp K H x d) (he : Dp K H y e) (h1 : SeqAt.shaped d = true) (h2 : SeqAt.shaped e = true) (q : Q (.bl (PyData.eqv d e)) H) : rEqD K x y H Q := ⟨d, e, hd, he, h1, h2, q⟩
theorem r_divmod (h : CDiv m k) (q : ∀ p H2, H p = none → Same H H2 → H2 p = some (.tup [.int (m / k), .int (m % k)]) → (∀ b, b ≠ p → H2 b = H b) → Q (.ref p) H2) :
    (fun xs H Q => ∃ i j, xs = [V.int i, V.int j] ∧ CDiv i j ∧ ∀ p, H p = none → Q (V.ref p) (upd H p (.tup [.int (i / j), .int (i % j)]))) [.int m, .int k] H Q :=
  ⟨m, k, rfl, h, fun p hp => q p _ hp (fun b o e => by rw [upd_ne (ne_of_none e hp)]; exact e) upd_same fun b hb => upd_ne hb⟩
theorem r_append {l : Addr} {y : V} (h : H l = some (.lst xs)) (hz : xs.length < sizeLine) (q : Q .non (upd H l (.lst (xs ++ [y])))) : rAppend (.ref l) [y] H Q := ⟨l, xs, y, rfl, rfl, h, hz, q⟩
theorem r_all {a : Addr} {bs : List Bool} (h : SqL K H a (bs.map V.bl)) (q : Q (.bl (bs.all id)) H) : rAll K [.ref a] H Q := ⟨a, bs, rfl, h, q⟩
theorem r_opOwn {C a : Addr} {Ts : List String} {sp : Sp} {E : XK} {y : V} (ha : InsAt C H a) (hy : (∃ b, y = .ref b ∧ InsAt C H b) ∨ ∃ T, plT y = some T ∧ T ∈ Ts) (q : sp [.ref a, y] H Q E) : rOpOwn C Ts sp E (.ref a) y H Q := ⟨a, rfl, ha, hy, q⟩
theorem r_neOwn {C a : Addr} {Ts : List String} {sp : Sp} {E : XK} {y : V} (ha : InsAt C H a) (hy : (∃ b, y = .ref b ∧ InsAt C H b) ∨ ∃ T, plT y = some T ∧ T ∈ Ts) (q : sp [.ref a, y] H (fun v H' => ∃ c, v = .bl c ∧ Q (.bl (!c)) H') E) : rNeOwn C Ts sp E (.ref a) y H Q := ⟨a, rfl, ha, hy, q⟩
theorem r_unOwn {C a : Addr} {sp : Sp} {E : XK} (ha : InsAt C H a) (q : sp [.ref a] H Q E) : rUnOwn C sp E (.ref a) H Q := ⟨a, rfl, ha, q⟩
theorem r_strOwn {C a : Addr} {sp : Sp} {E : XK} (ha : InsAt C H a) (q : sp [.ref a] H (fun v H' => ∃ z, v = .str z ∧ Q v H') E) : rStrOwn C sp E [.ref a] H Q := ⟨a, rfl, ha, q⟩
end

/-! the same, for what a lambda has been opened to -/
section
variable {K : PySem.W.Frag} {H : Hp} {m k : Int} {b : Bool} {p : Addr} {xs : List V}
theorem q_int {A : Int → Prop} {B : Bool → Prop} (q : A m) : (∃ i, [V.int m] = [V.int i] ∧ A i) ∨ ∃ k, [V.int m] = [V.bl k] ∧ B k := .inl ⟨m, rfl, q⟩
theorem q_intB {A : Int → Prop} {B : Bool → Prop} (q : B b) : (∃ i, [V.bl b] = [V.int i] ∧ A i) ∨ ∃ k, [V.bl b] = [V.bl k] ∧ B k := .inr ⟨b, rfl, q⟩
theorem q_1 {A : Int → Prop} (q : A m) : ∃ i, [V.int m] = [V.int i] ∧ A i := ⟨m, rfl, q⟩
theorem q_2 {A : Int → Int → Prop} (q : A m k) : ∃ i j, [V.int m, V.int k] = [V.int i, V.int j] ∧ A i j := ⟨m, k, rfl, q⟩
theorem q_len {A : Addr → List V → Prop} (h : SqL K H p xs) (q : A p xs) : ∃ p' ys, [V.ref p] = [V.ref p'] ∧ (SqL K H p' ys ∨ SqT K H p' ys) ∧ A p' ys := ⟨p, xs, rfl, .inl h, q⟩
theorem q_addS {z z' : Str} {A : Str → Str → Prop} (h : z.length + z'.length ≤ sizeLine) (q : A z z') : ∃ i j, V.str z = V.str i ∧ V.str z' = V.str j ∧ i.length + j.length ≤ sizeLine ∧ A i j := ⟨z, z', rfl, rfl, h, q⟩
theorem q_own {a C dx : Addr} {fs : List (Str × V)} {A : Addr → Prop} (h : H a = some (.ins C dx fs)) (q : A a) : ∃ a' dx fs, V.ref a = .ref a' ∧ H a' = some (.ins C dx fs) ∧ A a' := ⟨a, dx, fs, rfl, h, q⟩
end

/-! ### sizes -/
def Sz (n : Nat) (x : Int) : Prop := x.natAbs < 2 ^ n
theorem Sz.mono {n m : Nat} {x : Int} (h : Sz n x) (hm : n ≤ m) : Sz m x := Nat.lt_of_lt_of_le h (Nat.pow_le_pow_right (by decide) hm)
theorem Sz.log {n m : Nat} {x : Int} (h : Sz n x) (h0 : 0 < n) (hm : n ≤ m) : x.natAbs.log2 < m := Nat.lt_of_lt_of_le (PySem.Flt.log2_lt_of h0 h) hm
theorem Sz.mul {a b : Nat} {x y : Int} (hx : Sz a x) (hy : Sz b y) : Sz (a + b) (x * y) := wide_lt hx hy
theorem Sz.add {a b : Nat} {x y : Int} (hx : Sz a x) (hy : Sz b y) : Sz (max a b + 1) (x + y) := by
  have h1 := hx.mono (Nat.le_max_left a b)
  have h2 := hy.mono (Nat.le_max_right a b)
  unfold Sz at *
  rw [Nat.pow_succ]
  omega
theorem Sz.sub {a b : Nat} {x y : Int} (hx : Sz a x) (hy : Sz b y) : Sz (max a b + 1) (x - y) := by
  have h1 := hx.mono (Nat.le_max_left a b)
  have h2 := hy.mono (Nat.le_max_right a b)
  unfold Sz at *
  rw [Nat.pow_succ]
  omega
theorem Sz.neg {a : Nat} {x : Int} (hx : Sz a x) : Sz a (-x) := by
  unfold Sz at *
  omega
theorem Sz.cm {a b : Nat} {x y : Int} (hx : Sz a x) (hy : Sz b y) (h0 : 0 < a) (h1 : 0 < b) (h : a + b ≤ 1000000) : CMulW x y := wide_mul hx hy h0 h1 h
theorem Sz.le {a : Nat} {x y : Int} (hx : Sz a x) (h : y.natAbs ≤ x.natAbs) : Sz a y := Nat.lt_of_le_of_lt h hx

/-! ### lowest terms -/
/-- the divisor with the bottom's sign -/
def gd (t b : Int) : Int := if b < 0 then -((Nat.gcd t.natAbs b.natAbs : Nat) : Int) else ((Nat.gcd t.natAbs b.natAbs : Nat) : Int)
def low (t b : Int) : Int × Int := (t.fdiv (gd t b), b.fdiv (gd t b))
theorem gd_dvd (t b : Int) : gd t b ∣ t ∧ gd t b ∣ b := by
  have h1 : ((Nat.gcd t.natAbs b.natAbs : Nat) : Int) ∣ t := Int.ofNat_dvd_left.mpr (Nat.gcd_dvd_left _ _)
  have h2 : ((Nat.gcd t.natAbs b.natAbs : Nat) : Int) ∣ b := Int.ofNat_dvd_left.mpr (Nat.gcd_dvd_right _ _)
  unfold gd
  split
  · exact ⟨Int.neg_dvd.mpr h1, Int.neg_dvd.mpr h2⟩
  · exact ⟨h1, h2⟩
theorem gd_ne {t b : Int} (h : b ≠ 0) : gd t b ≠ 0 := by
  have h1 : 0 < Nat.gcd t.natAbs b.natAbs := Nat.gcd_pos_of_pos_right _ (by omega)
  unfold gd
  split <;> omega
theorem gd_abs (t b : Int) : (gd t b).natAbs = Nat.gcd t.natAbs b.natAbs := by
  unfold gd
  split <;> omega
theorem low_mul {t b : Int} (h : b ≠ 0) : (low t b).1 * gd t b = t ∧ (low t b).2 * gd t b = b := by
  obtain ⟨⟨c, hc⟩, ⟨d, hd⟩⟩ := gd_dvd t b
  have g0 := gd_ne (t := t) h
  unfold low
  constructor
  · show t.fdiv (gd t b) * gd t b = t
    have e : t.fdiv (gd t b) = c := by
      have z := Int.mul_fdiv_cancel_left c g0
      rw [← hc] at z
      exact z
    rw [e, Int.mul_comm]; exact hc.symm
  · show b.fdiv (gd t b) * gd t b = b
    have e : b.fdiv (gd t b) = d := by
      have z := Int.mul_fdiv_cancel_left d g0
      rw [← hd] at z
      exact z
    rw [e, Int.mul_comm]; exact hd.symm
theorem low_pos {t b : Int} (h : b ≠ 0) : 0 < (low t b).2 := by
  have ⟨_, h2⟩ := low_mul (t := t) h
  have hp : 0 < Nat.gcd t.natAbs b.natAbs := Nat.gcd_pos_of_pos_right _ (by omega)
  by_cases hb : b < 0
  · have hg : gd t b < 0 := by unfold gd; rw [if_pos hb]; omega
    by_cases q : 0 < (low t b).2
    · exact q
    · have := Int.mul_nonneg_of_nonpos_of_nonpos (Int.not_lt.mp q) (Int.le_of_lt hg)
      omega
  · have hg : 0 < gd t b := by unfold gd; rw [if_neg hb]; omega
    by_cases q : 0 < (low t b).2
    · exact q
    · have := Int.mul_nonpos_of_nonpos_of_nonneg (Int.not_lt.mp q) (Int.le_of_lt hg)
      omega
theorem low_gcd {t b : Int} (h : b ≠ 0) : Nat.gcd (low t b).1.natAbs (low t b).2.natAbs = 1 := by
  have ⟨h1, h2⟩ := low_mul (t := t) h
  have hp : 0 < Nat.gcd t.natAbs b.natAbs := Nat.gcd_pos_of_pos_right _ (by omega)
  have e1 : t.natAbs = (low t b).1.natAbs * Nat.gcd t.natAbs b.natAbs := by
    conv => lhs; rw [← h1]
    rw [Int.natAbs_mul, gd_abs]
  have e2 : b.natAbs = (low t b).2.natAbs * Nat.gcd t.natAbs b.natAbs := by
    conv => lhs; rw [← h2]
    rw [Int.natAbs_mul, gd_abs]
  have e3 : Nat.gcd t.natAbs b.natAbs = Nat.gcd (low t b).1.natAbs (low t b).2.natAbs * Nat.gcd t.natAbs b.natAbs := by
    rw [← Nat.gcd_mul_right, ← e1, ← e2]
  exact Nat.eq_of_mul_eq_mul_right hp (by rw [Nat.one_mul]; exact e3.symm)
/-- the two fractions are the same number: their lowest terms are the same -/
theorem low_cross {t b t' b' : Int} (h : b ≠ 0) (h' : b' ≠ 0) (e : t * b' = t' * b) : low t b = low t' b' := by
  have ⟨h1, h2⟩ := low_mul (t := t) h
  have ⟨h1', h2'⟩ := low_mul (t := t') h'
  have p := low_pos (t := t) h
  have p' := low_pos (t := t') h'
  have c := low_gcd (t := t) h
  have c' := low_gcd (t := t') h'
  have g0 := gd_ne (t := t) h
  have g0' := gd_ne (t := t') h'
  have key : (low t b).1 * (low t' b').2 = (low t' b').1 * (low t b).2 := by
    have e2 : ((low t b).1 * (low t' b').2) * (gd t b * gd t' b') = ((low t' b').1 * (low t b).2) * (gd t b * gd t' b') := by
      have a1 : ((low t b).1 * gd t b) * ((low t' b').2 * gd t' b') = ((low t' b').1 * gd t' b') * ((low t b).2 * gd t b) := by rw [h1, h2', h1', h2]; exact e
      have r1 : ((low t b).1 * (low t' b').2) * (gd t b * gd t' b') = ((low t b).1 * gd t b) * ((low t' b').2 * gd t' b') := by grind
      have r2 : ((low t' b').1 * (low t b).2) * (gd t b * gd t' b') = ((low t' b').1 * gd t' b') * ((low t b).2 * gd t b) := by grind
      rw [r1, r2, a1]
    exact Int.eq_of_mul_eq_mul_right (Int.mul_ne_zero g0 g0') e2
  have kn : (low t b).1.natAbs * (low t' b').2.natAbs = (low t' b').1.natAbs * (low t b).2.natAbs := by
    rw [← Int.natAbs_mul, ← Int.natAbs_mul, key]
  have d1 : (low t b).2.natAbs ∣ (low t' b').2.natAbs := by
    refine Nat.Coprime.dvd_of_dvd_mul_left (Nat.Coprime.symm c) ?_
    exact ⟨(low t' b').1.natAbs, by rw [kn, Nat.mul_comm]⟩
  have d2 : (low t' b').2.natAbs ∣ (low t b).2.natAbs := by
    refine Nat.Coprime.dvd_of_dvd_mul_left (Nat.Coprime.symm c') ?_
    exact ⟨(low t b).1.natAbs, by rw [← kn, Nat.mul_comm]⟩
  have en : (low t b).2 = (low t' b').2 := by
    have := Nat.dvd_antisymm d1 d2
    omega
  have em : (low t b).1 = (low t' b').1 := by
    rw [en] at key
    exact Int.eq_of_mul_eq_mul_right (by omega) key
  exact Prod.ext em en
theorem low_one (t : Int) : low t 1 = (t, 1) := by
  unfold low gd
  simp
theorem low_abs {t b : Int} (h : b ≠ 0) : (low t b).1.natAbs ≤ t.natAbs ∧ (low t b).2.natAbs ≤ b.natAbs := by
  have ⟨h1, h2⟩ := low_mul (t := t) h
  have hp : 0 < Nat.gcd t.natAbs b.natAbs := Nat.gcd_pos_of_pos_right _ (by omega)
  constructor
  · conv => rhs; rw [← h1]
    rw [Int.natAbs_mul, gd_abs]
    exact Nat.le_mul_of_pos_right _ hp
  · conv => rhs; rw [← h2]
    rw [Int.natAbs_mul, gd_abs]
    exact Nat.le_mul_of_pos_right _ hp
end LL
/-! LR3: names by their slots. -/
namespace LL
open PySem PySem.Spec PyProof.Rows L2
theorem r_v0 {v : V} {σ : L2.St} {H : Hp} {Q : VK} (q : Q v H) : tVar 0 (some v :: σ) H Q := ⟨v, rfl, q⟩
theorem r_s0 {y : Option V} {v : V} {σ : L2.St} {H : Hp} {Q : L2.St → Hp → Prop} (q : Q (some v :: σ) H) : gName 0 v (y :: σ) H Q := q
theorem r_v1 {x0 : Option V} {v : V} {σ : L2.St} {H : Hp} {Q : VK} (q : Q v H) : tVar 1 (x0 :: some v :: σ) H Q := ⟨v, rfl, q⟩
theorem r_s1 {x0 : Option V} {y : Option V} {v : V} {σ : L2.St} {H : Hp} {Q : L2.St → Hp → Prop} (q : Q (x0 :: some v :: σ) H) : gName 1 v (x0 :: y :: σ) H Q := q
theorem r_v2 {x0 x1 : Option V} {v : V} {σ : L2.St} {H : Hp} {Q : VK} (q : Q v H) : tVar 2 (x0 :: x1 :: some v :: σ) H Q := ⟨v, rfl, q⟩
theorem r_s2 {x0 x1 : Option V} {y : Option V} {v : V} {σ : L2.St} {H : Hp} {Q : L2.St → Hp → Prop} (q : Q (x0 :: x1 :: some v :: σ) H) : gName 2 v (x0 :: x1 :: y :: σ) H Q := q
theorem r_v3 {x0 x1 x2 : Option V} {v : V} {σ : L2.St} {H : Hp} {Q : VK} (q : Q v H) : tVar 3 (x0 :: x1 :: x2 :: some v :: σ) H Q := ⟨v, rfl, q⟩
theorem r_s3 {x0 x1 x2 : Option V} {y : Option V} {v : V} {σ : L2.St} {H : Hp} {Q : L2.St → Hp → Prop} (q : Q (x0 :: x1 :: x2 :: some v :: σ) H) : gName 3 v (x0 :: x1 :: x2 :: y :: σ) H Q := q
theorem r_v4 {x0 x1 x2 x3 : Option V} {v : V} {σ : L2.St} {H : Hp} {Q : VK} (q : Q v H) : tVar 4 (x0 :: x1 :: x2 :: x3 :: some v :: σ) H Q := ⟨v, rfl, q⟩
theorem r_s4 {x0 x1 x2 x3 : Option V} {y : Option V} {v : V} {σ : L2.St} {H : Hp} {Q : L2.St → Hp → Prop} (q : Q (x0 :: x1 :: x2 :: x3 :: some v :: σ) H) : gName 4 v (x0 :: x1 :: x2 :: x3 :: y :: σ) H Q := q
theorem r_v5 {x0 x1 x2 x3 x4 : Option V} {v : V} {σ : L2.St} {H : Hp} {Q : VK} (q : Q v H) : tVar 5 (x0 :: x1 :: x2 :: x3 :: x4 :: some v :: σ) H Q := ⟨v, rfl, q⟩
theorem r_s5 {x0 x1 x2 x3 x4 : Option V} {y : Option V} {v : V} {σ : L2.St} {H : Hp} {Q : L2.St → Hp → Prop} (q : Q (x0 :: x1 :: x2 :: x3 :: x4 :: some v :: σ) H) : gName 5 v (x0 :: x1 :: x2 :: x3 :: x4 :: y :: σ) H Q := q
theorem r_v6 {x0 x1 x2 x3 x4 x5 : Option V} {v : V} {σ : L2.St} {H : Hp} {Q : VK} (q : Q v H) : tVar 6 (x0 :: x1 :: x2 :: x3 :: x4 :: x5 :: some v :: σ) H Q := ⟨v, rfl, q⟩
theorem r_s6 {x0 x1 x2 x3 x4 x5 : Option V} {y : Option V} {v : V} {σ : L2.St} {H : Hp} {Q : L2.St → Hp → Prop} (q : Q (x0 :: x1 :: x2 :: x3 :: x4 :: x5 :: some v :: σ) H) : gName 6 v (x0 :: x1 :: x2 :: x3 :: x4 :: x5 :: y :: σ) H Q := q
theorem r_v7 {x0 x1 x2 x3 x4 x5 x6 : Option V} {v : V} {σ : L2.St} {H : Hp} {Q : VK} (q : Q v H) : tVar 7 (x0 :: x1 :: x2 :: x3 :: x4 :: x5 :: x6 :: some v :: σ) H Q := ⟨v, rfl, q⟩
theorem r_s7 {x0 x1 x2 x3 x4 x5 x6 : Option V} {y : Option V} {v : V} {σ : L2.St} {H : Hp} {Q : L2.St → Hp → Prop} (q : Q (x0 :: x1 :: x2 :: x3 :: x4 :: x5 :: x6 :: some v :: σ) H) : gName 7 v (x0 :: x1 :: x2 :: x3 :: x4 :: x5 :: x6 :: y :: σ) H Q := q
theorem r_v8 {x0 x1 x2 x3 x4 x5 x6 x7 : Option V} {v : V} {σ : L2.St} {H : Hp} {Q : VK} (q : Q v H) : tVar 8 (x0 :: x1 :: x2 :: x3 :: x4 :: x5 :: x6 :: x7 :: some v :: σ) H Q := ⟨v, rfl, q⟩
theorem r_s8 {x0 x1 x2 x3 x4 x5 x6 x7 : Option V} {y : Option V} {v : V} {σ : L2.St} {H : Hp} {Q : L2.St → Hp → Prop} (q : Q (x0 :: x1 :: x2 :: x3 :: x4 :: x5 :: x6 :: x7 :: some v :: σ) H) : gName 8 v (x0 :: x1 :: x2 :: x3 :: x4 :: x5 :: x6 :: x7 :: y :: σ) H Q := q
theorem r_v9 {x0 x1 x2 x3 x4 x5 x6 x7 x8 : Option V} {v : V} {σ : L2.St} {H : Hp} {Q : VK} (q : Q v H) : tVar 9 (x0 :: x1 :: x2 :: x3 :: x4 :: x5 :: x6 :: x7 :: x8 :: some v :: σ) H Q := ⟨v, rfl, q⟩
theorem r_s9 {x0 x1 x2 x3 x4 x5 x6 x7 x8 : Option V} {y : Option V} {v : V} {σ : L2.St} {H : Hp} {Q : L2.St → Hp → Prop} (q : Q (x0 :: x1 :: x2 :: x3 :: x4 :: x5 :: x6 :: x7 :: x8 :: some v :: σ) H) : gName 9 v (x0 :: x1 :: x2 :: x3 :: x4 :: x5 :: x6 :: x7 :: x8 :: y :: σ) H Q := q
theorem r_v10 {x0 x1 x2 x3 x4 x5 x6 x7 x8 x9 : Option V} {v : V} {σ : L2.St} {H : Hp} {Q : VK} (q : Q v H) : tVar 10 (x0 :: x1 :: x2 :: x3 :: x4 :: x5 :: x6 :: x7 :: x8 :: x9 :: some v :: σ) H Q := ⟨v, rfl, q⟩
theorem r_s10 {x0 x1 x2 x3 x4 x5 x6 x7 x8 x9 : Option V} {y : Option V} {v : V} {σ : L2.St} {H : Hp} {Q : L2.St → Hp → Prop} (q : Q (x0 :: x1 :: x2 :: x3 :: x4 :: x5 :: x6 :: x7 :: x8 :: x9 :: some v :: σ) H) : gName 10 v (x0 :: x1 :: x2 :: x3 :: x4 :: x5 :: x6 :: x7 :: x8 :: x9 :: y :: σ) H Q := q
theorem r_v11 {x0 x1 x2 x3 x4 x5 x6 x7 x8 x9 x10 : Option V} {v : V} {σ : L2.St} {H : Hp} {Q : VK} (q : Q v H) : tVar 11 (x0 :: x1 :: x2 :: x3 :: x4 :: x5 :: x6 :: x7 :: x8 :: x9 :: x10 :: some v :: σ) H Q := ⟨v, rfl, q⟩
theorem r_s11 {x0 x1 x2 x3 x4 x5 x6 x7 x8 x9 x10 : Option V} {y : Option V} {v : V} {σ : L2.St} {H : Hp} {Q : L2.St → Hp → Prop} (q : Q (x0 :: x1 :: x2 :: x3 :: x4 :: x5 :: x6 :: x7 :: x8 :: x9 :: x10 :: some v :: σ) H) : gName 11 v (x0 :: x1 :: x2 :: x3 :: x4 :: x5 :: x6 :: x7 :: x8 :: x9 :: x10 :: y :: σ) H Q := q
theorem r_v12 {x0 x1 x2 x3 x4 x5 x6 x7 x8 x9 x10 x11 : Option V} {v : V} {σ : L2.St} {H : Hp} {Q : VK} (q : Q v H) : tVar 12 (x0 :: x1 :: x2 :: x3 :: x4 :: x5 :: x6 :: x7 :: x8 :: x9 :: x10 :: x11 :: some v :: σ) H Q := ⟨v, rfl, q⟩
theorem r_s12 {x0 x1 x2 x3 x4 x5 x6 x7 x8 x9 x10 x11 : Option V} {y : Option V} {v : V} {σ : L2.St} {H : Hp} {Q : L2.St → Hp → Prop} (q : Q (x0 :: x1 :: x2 :: x3 :: x4 :: x5 :: x6 :: x7 :: x8 :: x9 :: x10 :: x11 :: some v :: σ) H) : gName 12 v (x0 :: x1 :: x2 :: x3 :: x4 :: x5 :: x6 :: x7 :: x8 :: x9 :: x10 :: x11 :: y :: σ) H Q := q
theorem r_v13 {x0 x1 x2 x3 x4 x5 x6 x7 x8 x9 x10 x11 x12 : Option V} {v : V} {σ : L2.St} {H : Hp} {Q : VK} (q : Q v H) : tVar 13 (x0 :: x1 :: x2 :: x3 :: x4 :: x5 :: x6 :: x7 :: x8 :: x9 :: x10 :: x11 :: x12 :: some v :: σ) H Q := ⟨v, rfl, q⟩
theorem r_s13 {x0 x1 x2 x3 x4 x5 x6 x7 x8 x9 x10 x11 x12 : Option V} {y : Option V} {v : V} {σ : L2.St} {H : Hp} {Q : L2.St → Hp → Prop} (q : Q (x0 :: x1 :: x2 :: x3 :: x4 :: x5 :: x6 :: x7 :: x8 :: x9 :: x10 :: x11 :: x12 :: some v :: σ) H) : gName 13 v (x0 :: x1 :: x2 :: x3 :: x4 :: x5 :: x6 :: x7 :: x8 :: x9 :: x10 :: x11 :: x12 :: y :: σ) H Q := q
theorem r_v14 {x0 x1 x2 x3 x4 x5 x6 x7 x8 x9 x10 x11 x12 x13 : Option V} {v : V} {σ : L2.St} {H : Hp} {Q : VK} (q : Q v H) : tVar 14 (x0 :: x1 :: x2 :: x3 :: x4 :: x5 :: x6 :: x7 :: x8 :: x9 :: x10 :: x11 :: x12 :: x13 :: some v :: σ) H Q := ⟨v, rfl, q⟩
theorem r_s14 {x0 x1 x2 x3 x4 x5 x6 x7 x8 x9 x10 x11 x12 x13 : Option V} {y : Option V} {v : V} {σ : L2.St} {H : Hp} {Q : L2.St → Hp → Prop} (q : Q (x0 :: x1 :: x2 :: x3 :: x4 :: x5 :: x6 :: x7 :: x8 :: x9 :: x10 :: x11 :: x12 :: x13 :: some v :: σ) H) : gName 14 v (x0 :: x1 :: x2 :: x3 :: x4 :: x5 :: x6 :: x7 :: x8 :: x9 :: x10 :: x11 :: x12 :: x13 :: y :: σ) H Q := q
theorem r_v15 {x0 x1 x2 x3 x4 x5 x6 x7 x8 x9 x10 x11 x12 x13 x14 : Option V} {v : V} {σ : L2.St} {H : Hp} {Q : VK} (q : Q v H) : tVar 15 (x0 :: x1 :: x2 :: x3 :: x4 :: x5 :: x6 :: x7 :: x8 :: x9 :: x10 :: x11 :: x12 :: x13 :: x14 :: some v :: σ) H Q := ⟨v, rfl, q⟩
theorem r_s15 {x0 x1 x2 x3 x4 x5 x6 x7 x8 x9 x10 x11 x12 x13 x14 : Option V} {y : Option V} {v : V} {σ : L2.St} {H : Hp} {Q : L2.St → Hp → Prop} (q : Q (x0 :: x1 :: x2 :: x3 :: x4 :: x5 :: x6 :: x7 :: x8 :: x9 :: x10 :: x11 :: x12 :: x13 :: x14 :: some v :: σ) H) : gName 15 v (x0 :: x1 :: x2 :: x3 :: x4 :: x5 :: x6 :: x7 :: x8 :: x9 :: x10 :: x11 :: x12 :: x13 :: x14 :: y :: σ) H Q := q
theorem r_v16 {x0 x1 x2 x3 x4 x5 x6 x7 x8 x9 x10 x11 x12 x13 x14 x15 : Option V} {v : V} {σ : L2.St} {H : Hp} {Q : VK} (q : Q v H) : tVar 16 (x0 :: x1 :: x2 :: x3 :: x4 :: x5 :: x6 :: x7 :: x8 :: x9 :: x10 :: x11 :: x12 :: x13 :: x14 :: x15 :: some v :: σ) H Q := ⟨v, rfl, q⟩
theorem r_s16 {x0 x1 x2 x3 x4 x5 x6 x7 x8 x9 x10 x11 x12 x13 x14 x15 : Option V} {y : Option V} {v : V} {σ : L2.St} {H : Hp} {Q : L2.St → Hp → Prop} (q : Q (x0 :: x1 :: x2 :: x3 :: x4 :: x5 :: x6 :: x7 :: x8 :: x9 :: x10 :: x11 :: x12 :: x13 :: x14 :: x15 :: some v :: σ) H) : gName 16 v (x0 :: x1 :: x2 :: x3 :: x4 :: x5 :: x6 :: x7 :: x8 :: x9 :: x10 :: x11 :: x12 :: x13 :: x14 :: x15 :: y :: σ) H Q := q
theorem r_v17 {x0 x1 x2 x3 x4 x5 x6 x7 x8 x9 x10 x11 x12 x13 x14 x15 x16 : Option V} {v : V} {σ : L2.St} {H : Hp} {Q : VK} (q : Q v H) : tVar 17 (x0 :: x1 :: x2 :: x3 :: x4 :: x5 :: x6 :: x7 :: x8 :: x9 :: x10 :: x11 :: x12 :: x13 :: x14 :: x15 :: x16 :: some v :: σ) H Q := ⟨v, rfl, q⟩
theorem r_s17 {x0 x1 x2 x3 x4 x5 x6 x7 x8 x9 x10 x11 x12 x13 x14 x15 x16 : Option V} {y : Option V} {v : V} {σ : L2.St} {H : Hp} {Q : L2.St → Hp → Prop} (q : Q (x0 :: x1 :: x2 :: x3 :: x4 :: x5 :: x6 :: x7 :: x8 :: x9 :: x10 :: x11 :: x12 :: x13 :: x14 :: x15 :: x16 :: some v :: σ) H) : gName 17 v (x0 :: x1 :: x2 :: x3 :: x4 :: x5 :: x6 :: x7 :: x8 :: x9 :: x10 :: x11 :: x12 :: x13 :: x14 :: x15 :: x16 :: y :: σ) H Q := q
theorem r_v18 {x0 x1 x2 x3 x4 x5 x6 x7 x8 x9 x10 x11 x12 x13 x14 x15 x16 x17 : Option V} {v : V} {σ : L2.St} {H : Hp} {Q : VK} (q : Q v H) : tVar 18 (x0 :: x1 :: x2 :: x3 :: x4 :: x5 :: x6 :: x7 :: x8 :: x9 :: x10 :: x11 :: x12 :: x13 :: x14 :: x15 :: x16 :: x17 :: some v :: σ) H Q := ⟨v, rfl, q⟩
theorem r_s18 {x0 x1 x2 x3 x4 x5 x6 x7 x8 x9 x10 x11 x12 x13 x14 x15 x16 x17 : Option V} {y : Option V} {v : V} {σ : L2.St} {H : Hp} {Q : L2.St → Hp → Prop} (q : Q (x0 :: x1 :: x2 :: x3 :: x4 :: x5 :: x6 :: x7 :: x8 :: x9 :: x10 :: x11 :: x12 :: x13 :: x14 :: x15 :: x16 :: x17 :: some v :: σ) H) : gName 18 v (x0 :: x1 :: x2 :: x3 :: x4 :: x5 :: x6 :: x7 :: x8 :: x9 :: x10 :: x11 :: x12 :: x13 :: x14 :: x15 :: x16 :: x17 :: y :: σ) H Q := q
theorem r_v19 {x0 x1 x2 x3 x4 x5 x6 x7 x8 x9 x10 x11 x12 x13 x14 x15 x16 x17 x18 : Option V} {v : V} {σ : L2.St} {H : Hp} {Q : VK} (q : Q v H) : tVar 19 (x0 :: x1 :: x2 :: x3 :: x4 :: x5 :: x6 :: x7 :: x8 :: x9 :: x10 :: x11 :: x12 :: x13 :: x14 :: x15 :: x16 :: x17 :: x18 :: some v :: σ) H Q := ⟨v, rfl, q⟩
theorem r_s19 {x0 x1 x2 x3 x4 x5 x6 x7 x8 x9 x10 x11 x12 x13 x14 x15 x16 x17 x18 : Option V} {y : Option V} {v : V} {σ : L2.St} {H : Hp} {Q : L2.St → Hp → Prop} (q : Q (x0 :: x1 :: x2 :: x3 :: x4 :: x5 :: x6 :: x7 :: x8 :: x9 :: x10 :: x11 :: x12 :: x13 :: x14 :: x15 :: x16 :: x17 :: x18 :: some v :: σ) H) : gName 19 v (x0 :: x1 :: x2 :: x3 :: x4 :: x5 :: x6 :: x7 :: x8 :: x9 :: x10 :: x11 :: x12 :: x13 :: x14 :: x15 :: x16 :: x17 :: x18 :: y :: σ) H Q := q
theorem r_v20 {x0 x1 x2 x3 x4 x5 x6 x7 x8 x9 x10 x11 x12 x13 x14 x15 x16 x17 x18 x19 : Option V} {v : V} {σ : L2.St} {H : Hp} {Q : VK} (q : Q v H) : tVar 20 (x0 :: x1 :: x2 :: x3 :: x4 :: x5 :: x6 :: x7 :: x8 :: x9 :: x10 :: x11 :: x12 :: x13 :: x14 :: x15 :: x16 :: x17 :: x18 :: x19 :: some v :: σ) H Q := ⟨v, rfl, q⟩
theorem r_s20 {x0 x1 x2 x3 x4 x5 x6 x7 x8 x9 x10 x11 x12 x13 x14 x15 x16 x17 x18 x19 : Option V} {y : Option V} {v : V} {σ : L2.St} {H : Hp} {Q : L2.St → Hp → Prop} (q : Q (x0 :: x1 :: x2 :: x3 :: x4 :: x5 :: x6 :: x7 :: x8 :: x9 :: x10 :: x11 :: x12 :: x13 :: x14 :: x15 :: x16 :: x17 :: x18 :: x19 :: some v :: σ) H) : gName 20 v (x0 :: x1 :: x2 :: x3 :: x4 :: x5 :: x6 :: x7 :: x8 :: x9 :: x10 :: x11 :: x12 :: x13 :: x14 :: x15 :: x16 :: x17 :: x18 :: x19 :: y :: σ) H Q := q
theorem r_v21 {x0 x1 x2 x3 x4 x5 x6 x7 x8 x9 x10 x11 x12 x13 x14 x15 x16 x17 x18 x19 x20 : Option V} {v : V} {σ : L2.St} {H : Hp} {Q : VK} (q : Q v H) : tVar 21 (x0 :: x1 :: x2 :: x3 :: x4 :: x5 :: x6 :: x7 :: x8 :: x9 :: x10 :: x11 :: x12 :: x13 :: x14 :: x15 :: x16 :: x17 :: x18 :: x19 :: x20 :: some v :: σ) H Q := ⟨v, rfl, q⟩
theorem r_s21 {x0 x1 x2 x3 x4 x5 x6 x7 x8 x9 x10 x11 x12 x13 x14 x15 x16 x17 x18 x19 x20 : Option V} {y : Option V} {v : V} {σ : L2.St} {H : Hp} {Q : L2.St → Hp → Prop} (q : Q (x0 :: x1 :: x2 :: x3 :: x4 :: x5 :: x6 :: x7 :: x8 :: x9 :: x10 :: x11 :: x12 :: x13 :: x14 :: x15 :: x16 :: x17 :: x18 :: x19 :: x20 :: some v :: σ) H) : gName 21 v (x0 :: x1 :: x2 :: x3 :: x4 :: x5 :: x6 :: x7 :: x8 :: x9 :: x10 :: x11 :: x12 :: x13 :: x14 :: x15 :: x16 :: x17 :: x18 :: x19 :: x20 :: y :: σ) H Q := q
theorem r_v22 {x0 x1 x2 x3 x4 x5 x6 x7 x8 x9 x10 x11 x12 x13 x14 x15 x16 x17 x18 x19 x20 x21 : Option V} {v : V} {σ : L2.St} {H : Hp} {Q : VK} (q : Q v H) : tVar 22 (x0 :: x1 :: x2 :: x3 :: x4 :: x5 :: x6 :: x7 :: x8 :: x9 :: x10 :: x11 :: x12 :: x13 :: x14 :: x15 :: x16 :: x17 :: x18 :: x19 :: x20 :: x21 :: some v :: σ) H Q := ⟨v, rfl, q⟩
theorem r_s22 {x0 x1 x2 x3 x4 x5 x6 x7 x8 x9 x10 x11 x12 x13 x14 x15 x16 x17 x18 x19 x20 x21 : Option V} {y : Option V} {v : V} {σ : L2.St} {H : Hp} {Q : L2.St → Hp → Prop} (q : Q (x0 :: x1 :: x2 :: x3 :: x4 :: x5 :: x6 :: x7 :: x8 :: x9 :: x10 :: x11 :: x12 :: x13 :: x14 :: x15 :: x16 :: x17 :: x18 :: x19 :: x20 :: x21 :: some v :: σ) H) : gName 22 v (x0 :: x1 :: x2 :: x3 :: x4 :: x5 :: x6 :: x7 :: x8 :: x9 :: x10 :: x11 :: x12 :: x13 :: x14 :: x15 :: x16 :: x17 :: x18 :: x19 :: x20 :: x21 :: y :: σ) H Q := q
theorem r_v23 {x0 x1 x2 x3 x4 x5 x6 x7 x8 x9 x10 x11 x12 x13 x14 x15 x16 x17 x18 x19 x20 x21 x22 : Option V} {v : V} {σ : L2.St} {H : Hp} {Q : VK} (q : Q v H) : tVar 23 (x0 :: x1 :: x2 :: x3 :: x4 :: x5 :: x6 :: x7 :: x8 :: x9 :: x10 :: x11 :: x12 :: x13 :: x14 :: x15 :: x16 :: x17 :: x18 :: x19 :: x20 :: x21 :: x22 :: some v :: σ) H Q := ⟨v, rfl, q⟩
theorem r_s23 {x0 x1 x2 x3 x4 x5 x6 x7 x8 x9 x10 x11 x12 x13 x14 x15 x16 x17 x18 x19 x20 x21 x22 : Option V} {y : Option V} {v : V} {σ : L2.St} {H : Hp} {Q : L2.St → Hp → Prop} (q : Q (x0 :: x1 :: x2 :: x3 :: x4 :: x5 :: x6 :: x7 :: x8 :: x9 :: x10 :: x11 :: x12 :: x13 :: x14 :: x15 :: x16 :: x17 :: x18 :: x19 :: x20 :: x21 :: x22 :: some v :: σ) H) : gName 23 v (x0 :: x1 :: x2 :: x3 :: x4 :: x5 :: x6 :: x7 :: x8 :: x9 :: x10 :: x11 :: x12 :: x13 :: x14 :: x15 :: x16 :: x17 :: x18 :: x19 :: x20 :: x21 :: x22 :: y :: σ) H Q := q
theorem r_v24 {x0 x1 x2 x3 x4 x5 x6 x7 x8 x9 x10 x11 x12 x13 x14 x15 x16 x17 x18 x19 x20 x21 x22 x23 : Option V} {v : V} {σ : L2.St} {H : Hp} {Q : VK} (q : Q v H) : tVar 24 (x0 :: x1 :: x2 :: x3 :: x4 :: x5 :: x6 :: x7 :: x8 :: x9 :: x10 :: x11 :: x12 :: x13 :: x14 :: x15 :: x16 :: x17 :: x18 :: x19 :: x20 :: x21 :: x22 :: x23 :: some v :: σ) H Q := ⟨v, rfl, q⟩
theorem r_s24 {x0 x1 x2 x3 x4 x5 x6 x7 x8 x9 x10 x11 x12 x13 x14 x15 x16 x17 x18 x19 x20 x21 x22 x23 : Option V} {y : Option V} {v : V} {σ : L2.St} {H : Hp} {Q : L2.St → Hp → Prop} (q : Q (x0 :: x1 :: x2 :: x3 :: x4 :: x5 :: x6 :: x7 :: x8 :: x9 :: x10 :: x11 :: x12 :: x13 :: x14 :: x15 :: x16 :: x17 :: x18 :: x19 :: x20 :: x21 :: x22 :: x23 :: some v :: σ) H) : gName 24 v (x0 :: x1 :: x2 :: x3 :: x4 :: x5 :: x6 :: x7 :: x8 :: x9 :: x10 :: x11 :: x12 :: x13 :: x14 :: x15 :: x16 :: x17 :: x18 :: x19 :: x20 :: x21 :: x22 :: x23 :: y :: σ) H Q := q
theorem r_v25 {x0 x1 x2 x3 x4 x5 x6 x7 x8 x9 x10 x11 x12 x13 x14 x15 x16 x17 x18 x19 x20 x21 x22 x23 x24 : Option V} {v : V} {σ : L2.St} {H : Hp} {Q : VK} (q : Q v H) : tVar 25 (x0 :: x1 :: x2 :: x3 :: x4 :: x5 :: x6 :: x7 :: x8 :: x9 :: x10 :: x11 :: x12 :: x13 :: x14 :: x15 :: x16 :: x17 :: x18 :: x19 :: x20 :: x21 :: x22 :: x23 :: x24 :: some v :: σ) H Q := ⟨v, rfl, q⟩
theorem r_s25 {x0 x1 x2 x3 x4 x5 x6 x7 x8 x9 x10 x11 x12 x13 x14 x15 x16 x17 x18 x19 x20 x21 x22 x23 x24 : Option V} {y : Option V} {v : V} {σ : L2.St} {H : Hp} {Q : L2.St → Hp → Prop} (q : Q (x0 :: x1 :: x2 :: x3 :: x4 :: x5 :: x6 :: x7 :: x8 :: x9 :: x10 :: x11 :: x12 :: x13 :: x14 :: x15 :: x16 :: x17 :: x18 :: x19 :: x20 :: x21 :: x22 :: x23 :: x24 :: some v :: σ) H) : gName 25 v (x0 :: x1 :: x2 :: x3 :: x4 :: x5 :: x6 :: x7 :: x8 :: x9 :: x10 :: x11 :: x12 :: x13 :: x14 :: x15 :: x16 :: x17 :: x18 :: x19 :: x20 :: x21 :: x22 :: x23 :: x24 :: y :: σ) H Q := q
theorem r_nT {A B : Prop} (q : B) : if (!true) = true then A else B := by
  rw [Bool.not_true, if_neg Bool.false_ne_true]; exact q
theorem r_nF {A B : Prop} (q : A) : if (!false) = true then A else B := by
  rw [Bool.not_false, if_pos rfl]; exact q
/-- a field read of a known instance -/
theorem r_fldI {K : PySem.W.Frag} {H : Hp} {Q : VK} {a C dx : Addr} {fs : List (Str × V)} {f : Str} {v : V} (h : H a = some (.ins C dx fs)) (c : Cls K C) (na : NoAttr K C f) (e : fs.lookup f = some v) (q : Q v H) :
    ∃ a' C dx fs v, V.ref a = .ref a' ∧ H a' = some (.ins C dx fs) ∧ Cls K C ∧ NoAttr K C f ∧ fs.lookup f = some v ∧ Q v H := ⟨a, C, dx, fs, v, rfl, h, c, na, e, q⟩
end LL
/-! LR4: loops, comprehensions; texts and what repr of lists shows. -/
namespace LL
open PySem PySem.Spec PyProof.Rows L2
section
variable {σ : L2.St} {H H1 : Hp} {Q : VK} {ta tl : TA} {te tx : TE} {g : TG} {tb : TS} {n : L2.St → Hp → Prop} {r : VK} {b c : L2.St → Hp → Prop} {tt : TT} {is : List Nat} {K : PySem.W.Frag} {wi : TI} {R : It → Hp → Prop} {D : Addr} {Qd : Hp → Prop}
def ForK (g : TG) (tb : TS) (n : L2.St → Hp → Prop) (r : VK) (σ : L2.St) (J : It) (H1 : Hp) : Prop := ∃ W : Nat → Nat → L2.St → Hp → Prop, (∃ m, W 0 m σ H1) ∧ ∀ i m σ H, W i m σ H →
  (J.stop i H ∧ n σ H) ∨ (J.go i H ∧ ∃ N : L2.St → Hp → Prop, (∀ σ' H', N σ' H' → ∃ m', m' < m ∧ W (i + 1) m' σ' H') ∧ ∀ x H', J.yld i H x H' → g x σ H' fun σ2 H2 => tb { nx := N, rt := r, bk := n, ct := N } σ2 H2)
theorem r_for (q : wi σ H fun J H1 => ForK g tb n r σ J H1) : tFor wi g tb { nx := n, rt := r, bk := b, ct := c } σ H := q
theorem r_rng1 (q : ta σ H fun vs H1 => ∃ j : Int, vs = [.int j] ∧ -(2 ^ 62) ≤ j ∧ j < 2 ^ 62 ∧ R (Itr 0 j.toNat) H1) : iRng1 ta σ H R := q
theorem r_itl (q : tx σ H fun x H1 => ∃ a, x = .ref a ∧ (∃ xs, SqL K H1 a xs) ∧ R (Itl K a) H1) : iList K tx σ H R := q
theorem r_zip (q : ta σ H fun vs H1 => ∃ a b xs ys, vs = [.ref a, .ref b] ∧ SqL K H1 a xs ∧ SqL K H1 b ys ∧ R (Itz K a b) H1) : iZip K ta σ H R := q
theorem u_range {k : Nat} (Pv : Nat → L2.St → Hp → Prop) (h0 : Pv 0 σ H) (hs : ∀ i σ H, i < k → Pv i σ H → g (.int (i : Nat)) σ H fun σ2 H2 => tb { nx := Pv (i + 1), rt := r, bk := n, ct := Pv (i + 1) } σ2 H2) (hd : ∀ σ H, Pv k σ H → n σ H) : ForK g tb n r σ (Itr 0 k) H :=
  for_range (D := { nx := n, rt := r }) Pv h0 (fun i σ H hi p => by rw [Int.zero_add]; exact hs i σ H hi p) hd
def LcK (g : TG) (tt : TT) (te : TE) (is : List Nat) (σ : L2.St) (Q : VK) (J : It) (H1 : Hp) : Prop := ∀ D, H1 D = none → ∃ W : Nat → Nat → Hp → Prop, (∃ m, W 0 m (upd H1 D (.lst []))) ∧ ∀ i m H, W i m H →
  (J.stop i H ∧ Q (.ref D) H) ∨ (J.go i H ∧ ∃ Nx : Hp → Prop, (∀ H', Nx H' → ∃ m', m' < m ∧ W (i + 1) m' H') ∧ ∀ x H', J.yld i H x H' → g x (wipe σ is) H' fun σ2 H2 => wipe σ2 is = wipe σ is ∧ tt σ2 H2 fun b H3 =>
    if b = true then te σ2 H3 fun y H4 => ∃ acc, H4 D = some (.lst acc) ∧ acc.length < sizeLine ∧ Nx (upd H4 D (.lst (acc ++ [y]))) else Nx H3)
theorem r_lc (q : wi σ H fun J H1 => LcK g tt te is σ Q J H1) : tLc wi g tt te is σ H Q := q
/-- what the new list grows by -/
def Grow (D : Addr) (Nx : Hp → Prop) : VK := fun y H4 => ∃ acc, H4 D = some (.lst acc) ∧ acc.length < sizeLine ∧ Nx (upd H4 D (.lst (acc ++ [y])))
theorem u_lcR {k : Nat} (q : ∀ D H0, H1 D = none → Same H1 H0 → H0 D = some (.lst []) → (∀ b, b ≠ D → H0 b = H1 b) → ∃ Pv : Nat → Hp → Prop, Pv 0 H0 ∧ (∀ i H, i < k → Pv i H → g (.int (i : Nat)) (wipe σ is) H fun σ2 H2 => wipe σ2 is = wipe σ is ∧ te σ2 H2 (Grow D (Pv (i + 1)))) ∧ ∀ H, Pv k H → Q (.ref D) H) : LcK g tYes te is σ Q (Itr 0 k) H1 := by
  intro D hD
  obtain ⟨Pv, h0, hs, hd⟩ := q D _ hD (fun b o e => by rw [upd_ne (ne_of_none e hD)]; exact e) upd_same fun b hb => upd_ne hb
  refine lc_range (lo := 0) Pv h0 (fun i H hi p => ?_) hd
  rw [Int.zero_add]
  exact hs i H hi p
theorem u_lcL {a : Addr} {xs : List V} (q : ∀ D H0, H1 D = none → Same H1 H0 → H0 D = some (.lst []) → (∀ b, b ≠ D → H0 b = H1 b) → ∃ Pv : Nat → Hp → Prop, Pv 0 H0 ∧ (∀ i H, i ≤ xs.length → Pv i H → SqL K H a xs) ∧ (∀ i x H, xs[i]? = some x → Pv i H → g x (wipe σ is) H fun σ2 H2 => wipe σ2 is = wipe σ is ∧ te σ2 H2 (Grow D (Pv (i + 1)))) ∧ ∀ H, Pv xs.length H → Q (.ref D) H) : LcK g tYes te is σ Q (Itl K a) H1 := by
  intro D hD
  obtain ⟨Pv, h0, hl, hs, hd⟩ := q D _ hD (fun b o e => by rw [upd_ne (ne_of_none e hD)]; exact e) upd_same fun b hb => upd_ne hb
  exact lc_list Pv h0 hl (fun i x H hx p => hs i x H hx p) hd
theorem u_lcZ {a b : Addr} {xs ys : List V} (q : ∀ D H0, H1 D = none → Same H1 H0 → H0 D = some (.lst []) → (∀ b, b ≠ D → H0 b = H1 b) → ∃ Pv : Nat → Hp → Prop, Pv 0 H0 ∧ (∀ i H, i ≤ xs.length → Pv i H → SqL K H a xs ∧ SqL K H b ys) ∧ xs.length = ys.length ∧
    (∀ i x y T H H', xs[i]? = some x → ys[i]? = some y → Pv i H → H T = none → Same H H' → H' T = some (.tup [x, y]) → (∀ b, b ≠ T → H' b = H b) → g (.ref T) (wipe σ is) H' fun σ2 H2 => wipe σ2 is = wipe σ is ∧ te σ2 H2 (Grow D (Pv (i + 1)))) ∧ ∀ H, Pv xs.length H → Q (.ref D) H) : LcK g tYes te is σ Q (Itz K a b) H1 := by
  intro D hD
  obtain ⟨Pv, h0, hl, hlen, hs, hd⟩ := q D _ hD (fun b o e => by rw [upd_ne (ne_of_none e hD)]; exact e) upd_same fun b hb => upd_ne hb
  refine ⟨fun i m H => m = xs.length - i ∧ i ≤ xs.length ∧ Pv i H, ⟨xs.length, by simp, Nat.zero_le _, h0⟩, ?_⟩
  rintro i m H ⟨rfl, hi, p⟩
  obtain ⟨s1, s2⟩ := hl i H hi p
  by_cases hlt : i < xs.length
  · have hlt2 : i < ys.length := hlen ▸ hlt
    refine .inr ⟨⟨xs, ys, xs[i], ys[i], s1, s2, by simp [hlt], by simp [hlt2]⟩, Pv (i + 1), fun H' p' => ⟨xs.length - (i + 1), by omega, rfl, hlt, p'⟩, fun v H' y => ?_⟩
    obtain ⟨T, x, y, rfl, hT, rfl, e1, e2⟩ := y
    exact hs i x y T H _ (e1 xs s1) (e2 ys s2) p hT (fun b o e => by rw [upd_ne (ne_of_none e hT)]; exact e) upd_same fun b hb => upd_ne hb
  · have e : i = xs.length := by omega
    subst e
    exact .inl ⟨⟨xs, ys, s1, s2, .inl (Nat.le_refl _)⟩, hd H p⟩
theorem r_grow {acc : List V} {y : V} {Nx : Hp → Prop} (h : H D = some (.lst acc)) (hz : acc.length < 100000) (q : Nx (upd H D (.lst (acc ++ [y])))) : Grow D Nx y H := ⟨acc, h, Nat.lt_of_lt_of_le hz (by decide), q⟩
theorem r_while {tc : TT} (q : ∃ W : Nat → L2.St → Hp → Prop, (∃ m, W m σ H) ∧ ∀ m σ H, W m σ H → tc σ H fun bb H1 => if bb = true then ∃ N : L2.St → Hp → Prop, (∀ σ' H', N σ' H' → ∃ m', m' < m ∧ W m' σ' H') ∧ tb { nx := N, rt := r, bk := n, ct := N } σ H1 else n σ H1) : tWhile tc tb { nx := n, rt := r, bk := b, ct := c } σ H := q
end

section
variable {X : Cx} {K' : PySem.W.Frag} {pos : Pos}
/-! in a block of a comprehension what the library knows must be named -/
theorem pg_tupK {es : List Expr} {k : Nat} {t : TGs} {n : Nat} (hc : X.calm = true) (h : PGs X es t) (hn : (assignEach es X.env).length = n := by rfl) (hst : (assignEach es X.env).findIdx? (·.1) = none := by rfl) (hK : X.K = K' := by rfl) : PG X (.Tuple es k pos) (gTup K' n t) := by
  subst hK
  exact pg_tup hc h hn hst
theorem ix_listK (hK : X.K = K' := by rfl) : IxR X (rIxL K') := by
  subst hK
  exact ix_list
theorem ix_tupK (hK : X.K = K' := by rfl) : IxR X (rIxT K') := by
  subst hK
  exact ix_tup
end

/-! ### texts -/
def Ok8 (x : Str) : Prop := ∀ c ∈ x.cps.toList, c < 16 ^ 8
theorem ok8_of (s : String) : Ok8 (Str.ofString s) := by
  intro c hc
  rw [signs_ofString] at hc
  obtain ⟨d, _, rfl⟩ := List.mem_map.mp hc
  exact d.val.toNat_lt
theorem Ok8.app {x y : Str} (hx : Ok8 x) (hy : Ok8 y) : Ok8 (x ++ y) := by
  intro c hc
  have e : (x ++ y).cps.toList = x.cps.toList ++ y.cps.toList := Array.toList_append
  rw [e] at hc
  rcases List.mem_append.mp hc with h | h
  · exact hx c h
  · exact hy c h
theorem ok8_nil : Ok8 Str.empty := fun c hc => by cases hc
theorem Ok8.len {x : Str} (h : Ok8 x) : (reprText x).length ≤ 10 * x.length + 2 := StrLaws.reprText_len x h
theorem nil_app (x : Str) : Str.empty ++ x = x := by
  have e : (Str.empty ++ x).cps = Str.empty.cps ++ x.cps := rfl
  cases x with
  | mk c =>
    show Str.mk (#[] ++ c) = _
    rw [Array.empty_append]
end LL
/-! LL6: own operators with an instance of another own class at the right. -/
namespace LL
open PySem PySem.Spec PyProof.Rows L2
section
open PySem.W
variable {prog : Program} {w : World} {A : Around} {E : Value → Shared → Prop} {s : Shared} {K : Frag} {x C D L f : Addr} {h₀ : Heap} {m : Str → Option Value} {ox : Obj} {od : Option Obj}
theorem bin_two {op : Operator} {b : Value} {rc rd : Option Value} {f2 : Addr} {Q : Value → Shared → Prop} (F : Fr h₀ L s.heap m) (X₀ : K.In h₀) (I : PySem.W.InstAt s.heap x ox C od)
    (tb : Looks (model prog w) s.heap (typeOf b) (.ref D)) (hc : selfFirst K C = true) (hd : selfFirst K D = true) (hs : findIn K (.ref C) (PySem.dunder op.info.2) = some (some (.ref f))) (hf : isFn K (.ref f) = true)
    (hr : findIn K (.ref C) (dunderR op.info.2) = some rc) (hp : rc = none ∨ ∃ g : Addr, rc = some (.ref g)) (h1 : findIn K (.ref D) (PySem.dunder op.info.2) = some (some (.ref f2))) (h2 : findIn K (.ref D) (dunderR op.info.2) = some rd)
    (hp2 : rd = none ∨ ∃ g : Addr, rd = some (.ref g)) (hsub : subIn K (.ref D) (.ref C) = some false) (hCD : C ≠ D)
    (h : wpAny (model prog w) A (call (.ref f) [.ref x, b]) (PySem.W.CmpBack Q) E s) : wpAny (model prog w) A (binaryOp op (.ref x) b) Q E s := by
  have X := X₀.keeps F.keep
  obtain ⟨cd, rest, hcd, hm⟩ := ksp_first hc
  obtain ⟨cd2, rest2, hcd2, hm2⟩ := ksp_first hd
  rcases hi : op.info with ⟨sym, nm'⟩
  rw [hi] at hs hr h1 h2
  dsimp only at hs hr h1 h2
  have one := ksp_try X I hs hf h
  obtain ⟨hh, g, d, tt, os⟩ := s
  have T1 : Looks (model prog w) hh (typeOf (.ref x)) (.ref C) := I.type
  have T2 : Looks (model prog w) hh (typeOf b) (.ref D) := tb
  have T3 : Looks (model prog w) hh (fillsNumberSlot (.ref C) nm') true := fills_K X hcd hm hs
  have T4 : Looks (model prog w) hh (fillsNumberSlot (.ref D) nm') true := fills_K X hcd2 hm2 h1
  have T5 : Looks (model prog w) hh (isSubtype (.ref D) (.ref C)) false := looks_subIn X hsub
  have T6 : Looks (model prog w) hh (numberSlotInPython (.ref C) nm') true := ksp_inPy X hs hr hp
  have T7 : Looks (model prog w) hh (numberSlotInPython (.ref D) nm') true := ksp_inPy X h1 h2 hp2
  have hne : (Value.ref C == Value.ref D) = false := Bool.eq_false_iff.mpr fun q => hCD (Value.ref.inj (beq_iff_eq.mp q))
  simp only [binaryOp, hi]
  refine wpAny_holding (wpAny_bind ?_)
  unfold binaryOp1
  refine wpAny_bind (T1.at (wpAny_bind (T2.at (wpAny_bind (T3.at ?_)))))
  simp only [hne, Bool.false_eq_true, if_false]
  ksp_lk
  refine wpAny_mono one (fun r s' z => ?_) fun _ _ e => e
  obtain ⟨v, rfl, hq⟩ := z
  ksp_lk
  exact hq
end
/-- C's operator with an instance of D at the right -/
structure OpTwo (K : PySem.W.Frag) (C D : Addr) (nm : String) (f : Addr) : Prop where
  first : PySem.W.selfFirst K C = true
  at_ : PySem.W.findIn K (.ref C) (PySem.dunder nm) = some (some (.ref f))
  fn : PySem.W.isFn K (.ref f) = true
  refl : PySem.W.findIn K (.ref C) (dunderR nm) = some none
  first2 : PySem.W.selfFirst K D = true
  at2 : ∃ f2 : Addr, PySem.W.findIn K (.ref D) (PySem.dunder nm) = some (some (.ref f2))
  refl2 : PySem.W.findIn K (.ref D) (dunderR nm) = some none
  sub : PySem.W.subIn K (.ref D) (.ref C) = some false
  ne : C ≠ D
def rOpTwo (C D : Addr) (sp : Sp) (E : XK) : R2 := fun x y H Q => ∃ a b, x = .ref a ∧ y = .ref b ∧ InsAt C H a ∧ InsAt D H b ∧ sp [x, y] H Q E
section
variable {X : Cx} {CX : CXT} {g : Bool} {k : Nat} {f C D : Addr} {fd : FuncData} {ps : List Str} {sp : Sp} {E : XK}
theorem op_two {op : Operator} (O : OpTwo X.K C D op.info.2 f) (F : FnG X.prog X.w X.K X.mg X.base CX g k f fd ps sp) (hr : Room k X.A) (hg : Clr g X.A) (hb : Binds X.K fd ps []) (hx : Passes CX X E) : OpR X (binaryOp op) (rOpTwo C D sp E) := by
  intro pins s σ H x y v u Q I rx ry h
  obtain ⟨a, b, rfl, rfl, ⟨dx, fs, ea⟩, ⟨dy, gs, eb⟩, q⟩ := h
  obtain rfl : v = Value.ref a := rx
  obtain rfl : u = Value.ref b := ry
  obtain ⟨ox, od, J⟩ := inst_of I ea
  obtain ⟨oy, od2, J2⟩ := inst_of I eb
  obtain ⟨m, Fr0⟩ := I.fr
  obtain ⟨f2, h2⟩ := O.at2
  refine bin_two Fr0 I.ok.mod.kin J J2.type O.first O.first2 O.at_ O.fn O.refl (.inl rfl) h2 O.refl2 (.inl rfl) O.sub O.ne ?_
  exact wpAny_mono (run_gX (us := [.ref a, .ref b]) (vs := [.ref a, .ref b]) (dvs := []) F hr hg hb .nil hx I (.cons rfl (.cons rfl .nil)) q) (fun w s' z => by
    obtain ⟨z1, H', I', r', q'⟩ := z
    exact not_ni r' ⟨z1, H', I', r', q'⟩) fun _ _ z => z
/-- == where the right side is an instance of another own class -/
structure EqTwo (K : PySem.W.Frag) (C D f : Addr) : Prop where
  at_ : PySem.W.findIn K (.ref C) "__eq__" = some (some (.ref f))
  fn : PySem.W.isFn K (.ref f) = true
  ts : PySem.W.notFirst K C (.ref D) = true
theorem op_eqTwo (O : EqTwo X.K C D f) (F : FnG X.prog X.w X.K X.mg X.base CX g k f fd ps sp) (hr : Room k X.A) (hg : Clr g X.A) (hb : Binds X.K fd ps []) (hx : Passes CX X E) : OpR X (compareOp .Eq) (rOpTwo C D sp E) := by
  intro pins s σ H x y v u Q I rx ry h
  obtain ⟨a, b, rfl, rfl, ⟨dx, fs, ea⟩, ⟨dy, gs, eb⟩, q⟩ := h
  obtain rfl : v = Value.ref a := rx
  obtain rfl : u = Value.ref b := ry
  obtain ⟨ox, od, J⟩ := inst_of I ea
  obtain ⟨oy, od2, J2⟩ := inst_of I eb
  obtain ⟨m, Fr0⟩ := I.fr
  show wpAny (model X.prog X.w) X.A (richCompare .Eq (.ref a) (.ref b)) (EP X pins σ Q) X.xe s
  refine PySem.W.cmp_K hr.units0 Fr0 I.ok.mod.kin J J2.type O.ts O.at_ O.fn ?_
  exact wpAny_mono (run_gX (us := [.ref a, .ref b]) (vs := [.ref a, .ref b]) (dvs := []) F hr hg hb .nil hx I (.cons rfl (.cons rfl .nil)) q) (fun w s' z => by
    obtain ⟨z1, H', I', r', q'⟩ := z
    exact not_ni r' ⟨z1, H', I', r', q'⟩) fun _ _ z => z
end
/-! the same as Bools, for the hook -/
def twoB (K : PySem.W.Frag) (C D : Str) (nm : String) : Bool := PySem.W.selfFirst K (He.ga K C) && (fnB K C (PySem.dunder nm) && (He.eqO (PySem.W.findIn K (.ref (He.ga K C)) (dunderR nm)) (some none) && (PySem.W.selfFirst K (He.ga K D) &&
  (fnB K D (PySem.dunder nm) && (He.eqO (PySem.W.findIn K (.ref (He.ga K D)) (dunderR nm)) (some none) && (decide (PySem.W.subIn K (.ref (He.ga K D)) (.ref (He.ga K C)) = some false) && decide (He.ga K C ≠ He.ga K D)))))))
theorem twoB_ok {K : PySem.W.Frag} {C D : Str} {nm : String} (h : twoB K C D nm = true) : OpTwo K (He.ga K C) (He.ga K D) nm (He.ma K (He.ga K C) (PySem.dunder nm)) := by
  obtain ⟨h1, h⟩ := He.ba h
  obtain ⟨h2, h⟩ := He.ba h
  obtain ⟨h3, h⟩ := He.ba h
  obtain ⟨h4, h⟩ := He.ba h
  obtain ⟨h5, h⟩ := He.ba h
  obtain ⟨h6, h⟩ := He.ba h
  obtain ⟨h7, h8⟩ := He.ba h
  exact ⟨h1, (fnB_ok h2).at_, (fnB_ok h2).fn, He.eqO_ok h3, h4, ⟨_, (fnB_ok h5).at_⟩, He.eqO_ok h6, of_decide_eq_true h7, of_decide_eq_true h8⟩
def eqTwoB (K : PySem.W.Frag) (C D : Str) : Bool := fnB K C "__eq__" && PySem.W.notFirst K (He.ga K C) (.ref (He.ga K D))
theorem eqTwoB_ok {K : PySem.W.Frag} {C D : Str} (h : eqTwoB K C D = true) : EqTwo K (He.ga K C) (He.ga K D) (He.ma K (He.ga K C) "__eq__") := by
  obtain ⟨h1, h2⟩ := He.ba h
  exact ⟨(fnB_ok h1).at_, (fnB_ok h1).fn, h2⟩
end LL
/-! LL7: a name set to a dict comprehension. -/
namespace LL
open PySem PySem.Spec PyProof.Rows L2
theorem sw_dc {kx vx : Expr} {gs : List Comprehension} {sc : Scope} {pos py : Pos} {y : Str} {l : Nat} {env : Env} (fnk : env.scope.kind = .function) (loc : env.scope.names.lookup y = some .local) (line : (py.line == pos.line) = true)
    (free : (sc.names.any fun (n, k) => n == y && (k == .local || k == .cell)) = false) : swapsWith (.DictComp kx vx gs sc pos) (some (.Name y py)) l env = pure true := by
  have k1 : env.kindOf y = some .local := loc
  have k2 : env.blockKind = .function := by
    unfold Env.blockKind
    rw [fnk]
    rfl
  unfold swapsWith
  simp only [k2, k1, free, Expr.pos, line]
  rfl
theorem ps_setDc {X : Cx} {i : Nat} {y : Str} {py pos spos : Pos} {kx vx tg iter : Expr} {ifs : List Expr} {sc : Scope} {own : List (Str × Nat)} {wi : TI} {g : TG} {tt : TT} {tk tv : TE} (calm : X.calm = true) (nd : X.N.Nodup)
    (at_ : X.N[i]? = some y) (loc : X.env.scope.names.lookup y = some .local) (sw : swapsWith (.DictComp kx vx [⟨tg, iter, ifs, 0⟩] sc pos) (some (.Name y py)) spos.line X.env = pure true) (it : PI X tg iter wi) (ok : BlkOk X.N X.env.scope sc own)
    (bg : ∀ s H C cl fp, PG (X.blk s H sc (compEnvC sc cl C X.env) fp) tg g) (bt : ∀ s H C cl fp, PTs (X.blk s H sc (compEnvC sc cl C X.env) fp) ifs tt)
    (bk : ∀ s H C cl fp, PE (X.blk s H sc (compEnvC sc cl C X.env) fp) kx tk) (bv : ∀ s H C cl fp, PE (X.blk s H sc (compEnvC sc cl C X.env) fp) vx tv) (fold : ∀ x, foldedSetIterable iter X.env x = pure x := by intro _; rfl) :
    PS X (.Assign [.Name y py] (.DictComp kx vx [⟨tg, iter, ifs, 0⟩] sc pos) spos) (tAsg (tDc wi g tt tk tv (own.map (·.2))) (gName i)) := by
  constructor
  intro pins sh σ H D I want
  rw [exec_Assign_Name_used (hs := sw)]
  refine wpAny_bind (wpAny_standAt (wpAny_bind ?_))
  have want2 : tDc wi g tt tk tv (own.map (·.2)) σ H (fun x K1 => gName i x σ K1 D.nx) := want
  have made := dc_core (pos := pos) (pos' := firstIterPos [⟨tg, iter, ifs, 0⟩] pos) (use := some (assign (.Name y py) X.env)) (Qf := fun _ z => SP X pins D .next z) calm nd I it ok bg bt bk bv fold want2 (fun L C z m K1 I1 q1 ns f => by
    obtain ⟨f0, f1, f2, f3, f4, f5⟩ := f
    show wpAny _ _ (assign (.Name y py) X.env (.ref L)) _ _ _
    refine wpAny_assign_Name (store_ok2 (v := V.ref L) I1 nd at_ (.inl loc) rfl (fun z2 I2 far => ?_) (.inr loc))
    obtain ⟨a, same, where_⟩ := far
    have apart : C ≠ a := by
      rcases where_ with w1 | w1
      · exact w1 ▸ f1
      · exact fun e => f4 y a w1 e.symm
    exact ⟨m, ns.sameBut same apart, fun h3 same3 => ⟨_, K1, I2.turned (t' := z2.toks) (fun b o hb e => (same3.2 b hb).trans e) f0 f1 f3 f4 f5, q1⟩⟩)
  show wpAny _ X.A (do let _ ← comprehension (.DictComp kx vx [⟨tg, iter, ifs, 0⟩] sc pos) sc X.env (firstIterPos [⟨tg, iter, ifs, 0⟩] pos) newDict false (eval iter X.env) (some (assign (.Name y py) X.env))) _ _ sh
  exact wpAny_bind (thn made fun _ z hq => wpAny_pure (wpAny_pure hq))
/-- a field in a comprehension's block: K is named -/
theorem pe_fldK {X : Cx} {K' : PySem.W.Frag} {e : Expr} {f : Str} {pos : Pos} {ta : TE} (he : PE X e ta) (hb : attributeBase e f X.env (eval e X.env) = eval e X.env) (hK : X.K = K' := by rfl) : PE X (.Attribute e f pos) (tFld K' ta f) := by
  subst hK
  exact pe_fld he hb
end LL
/-! LL8: dict comprehensions over a list and over a locked dict; permutations of keys. -/
namespace LL
open PySem PySem.Spec PyProof.Rows L2
section
variable {σ : L2.St} {H H1 : Hp} {Q : VK} {tk tv : TE} {g : TG} {tt : TT} {is : List Nat} {K : PySem.W.Frag} {wi : TI}
def DcK (g : TG) (tt : TT) (tk tv : TE) (is : List Nat) (σ : L2.St) (Q : VK) (J : It) (H1 : Hp) : Prop := ∀ D, H1 D = none → ∃ W : Nat → Nat → Hp → Prop, (∃ m, W 0 m (upd H1 D (.dK []))) ∧ ∀ i m H, W i m H →
  (J.stop i H ∧ Q (.ref D) H) ∨ (J.go i H ∧ ∃ Nx : Hp → Prop, (∀ H', Nx H' → ∃ m', m' < m ∧ W (i + 1) m' H') ∧ ∀ x H', J.yld i H x H' → g x (wipe σ is) H' fun σ2 H2 => wipe σ2 is = wipe σ is ∧ tt σ2 H2 fun b H3 =>
    if b = true then tk σ2 H3 fun y H4 => tv σ2 H4 fun z H5 => ∃ kvs k, y = kV k ∧ H5 D = some (.dK kvs) ∧ kvs.length < sizeLine ∧ Nx (upd H5 D (.dK (putK kvs k z))) else Nx H3)
theorem r_dc (q : wi σ H fun J H1 => DcK g tt tk tv is σ Q J H1) : tDc wi g tt tk tv is σ H Q := q
/-- what the new dict grows by -/
def GrowD (D : Addr) (Nx : Hp → Prop) (y : V) : VK := fun z H5 => ∃ kvs k, y = kV k ∧ H5 D = some (.dK kvs) ∧ kvs.length < sizeLine ∧ Nx (upd H5 D (.dK (putK kvs k z)))
theorem putK_new {kvs : List (Key × V)} {k : Key} {v : V} (h : ∀ kv ∈ kvs, kv.1 ≠ k) : putK kvs k v = kvs ++ [(k, v)] := by
  unfold putK
  rw [if_neg]
  intro e
  obtain ⟨kv, hm, hk⟩ := List.any_eq_true.mp e
  exact h kv hm (of_decide_eq_true hk)
theorem g_growD {D : Addr} {kvs : List (Key × V)} {k : Key} {z : V} {Nx : Hp → Prop} (h : H D = some (.dK kvs)) (hz : kvs.length < 100000) (new : ∀ kv ∈ kvs, kv.1 ≠ k) (q : ∀ H2, H2 D = some (.dK (kvs ++ [(k, z)])) → (∀ b, b ≠ D → H2 b = H b) → Nx H2) : GrowD D Nx (kV k) z H := by
  refine ⟨kvs, k, rfl, h, Nat.lt_of_lt_of_le hz (by decide), ?_⟩
  rw [putK_new new]
  exact q _ upd_same fun b hb => upd_ne hb
theorem u_dcL {a : Addr} {xs : List V} (q : ∀ D H0, H1 D = none → Same H1 H0 → H0 D = some (.dK []) → (∀ b, b ≠ D → H0 b = H1 b) → ∃ Pv : Nat → Hp → Prop, Pv 0 H0 ∧ (∀ i H, i ≤ xs.length → Pv i H → SqL K H a xs) ∧
    (∀ i x H, xs[i]? = some x → Pv i H → g x (wipe σ is) H fun σ2 H2 => wipe σ2 is = wipe σ is ∧ tk σ2 H2 fun y H4 => tv σ2 H4 (GrowD D (Pv (i + 1)) y)) ∧ ∀ H, Pv xs.length H → Q (.ref D) H) : DcK g tYes tk tv is σ Q (Itl K a) H1 := by
  intro D hD
  obtain ⟨Pv, h0, hl, hs, hd⟩ := q D _ hD (fun b o e => by rw [upd_ne (ne_of_none e hD)]; exact e) upd_same fun b hb => upd_ne hb
  refine ⟨fun i m H => m = xs.length - i ∧ i ≤ xs.length ∧ Pv i H, ⟨xs.length, by simp, Nat.zero_le _, h0⟩, ?_⟩
  rintro i m H ⟨rfl, hi, p⟩
  have sq := hl i H hi p
  by_cases hlt : i < xs.length
  · refine .inr ⟨⟨xs, xs[i], sq, by simp [hlt]⟩, Pv (i + 1), fun H' p' => ⟨xs.length - (i + 1), by omega, rfl, hlt, p'⟩, fun x H' y => ?_⟩
    obtain ⟨rfl, e⟩ := y
    exact hs i x _ (e xs sq) p
  · have e : i = xs.length := by omega
    subst e
    exact .inl ⟨⟨xs, sq, Nat.le_refl _⟩, hd H p⟩
theorem u_dcK {d : Addr} {o : Obj} {kvs : List (Key × V)} (q : ∀ D H0, H1 D = none → Same H1 H0 → H0 D = some (.dK []) → (∀ b, b ≠ D → H0 b = H1 b) → ∃ Pv : Nat → Hp → Prop, Pv 0 H0 ∧ (∀ i H, i ≤ kvs.length → Pv i H → H d = some (.frz o (.dK kvs))) ∧
    (∀ i k v H, kvs[i]? = some (k, v) → Pv i H → g (kV k) (wipe σ is) H fun σ2 H2 => wipe σ2 is = wipe σ is ∧ tt σ2 H2 fun b H3 => if b = true then tk σ2 H3 fun y H4 => tv σ2 H4 (GrowD D (Pv (i + 1)) y) else Pv (i + 1) H3) ∧ ∀ H, Pv kvs.length H → Q (.ref D) H) :
    DcK g tt tk tv is σ Q (Itk d o kvs) H1 := by
  intro D hD
  obtain ⟨Pv, h0, hl, hs, hd⟩ := q D _ hD (fun b o e => by rw [upd_ne (ne_of_none e hD)]; exact e) upd_same fun b hb => upd_ne hb
  refine ⟨fun i m H => m = kvs.length - i ∧ i ≤ kvs.length ∧ Pv i H, ⟨kvs.length, by simp, Nat.zero_le _, h0⟩, ?_⟩
  rintro i m H ⟨rfl, hi, p⟩
  have st := hl i H hi p
  by_cases hlt : i < kvs.length
  · refine .inr ⟨⟨st, hlt⟩, Pv (i + 1), fun H' p' => ⟨kvs.length - (i + 1), by omega, rfl, hlt, p'⟩, fun v H' y => ?_⟩
    obtain ⟨rfl, k, w, e, rfl⟩ := y
    exact hs i k w _ e p
  · have e : i = kvs.length := by omega
    subst e
    exact .inl ⟨⟨st, Nat.le_refl _⟩, hd H p⟩
end
/-- the truth of a value as a test, K named -/
def tTruK (K : PySem.W.Frag) (ta : TE) : TT := fun σ H Q => ta σ H fun x H' => ∃ k, TruV K x H' k ∧ Q k H'
theorem pt_truthK {X : Cx} {K' : PySem.W.Frag} {a : Expr} {ta : TE} (ha : PE X a ta) (he : ∀ whole, isTrue a X.env whole = (do let v ← whole; standAt a.pos; holding [v] (truthy v))) (hK : X.K = K' := by rfl) : PT X a (tTruK K' ta) := by
  subst hK
  exact pt_truth ha he
theorem r_truK {K : PySem.W.Frag} {ta : TE} {σ : L2.St} {H : Hp} {Q : Bool → Hp → Prop} (q : ta σ H fun x H' => ∃ k, TruV K x H' k ∧ Q k H') : tTruK K ta σ H Q := q
/-- a permutation of what f makes of a list lifts to one of the list -/
theorem perm_lift {α β : Type} {f : α → β} {ys ks : List β} (h : ys.Perm ks) : ∀ ws : List α, ws.map f = ks → ∃ ws2 : List α, ws2.Perm ws ∧ ws2.map f = ys := by
  induction h with
  | nil => intro ws e; exact ⟨[], by rw [List.map_eq_nil_iff.mp e], rfl⟩
  | cons x _ ih =>
    intro ws e
    cases ws with
    | nil => cases e
    | cons w r =>
      rw [List.map_cons] at e
      obtain ⟨e1, e2⟩ := List.cons.inj e
      obtain ⟨r2, p, m⟩ := ih r e2
      exact ⟨w :: r2, p.cons w, by rw [List.map_cons, e1, m]⟩
  | swap x y l =>
    intro ws e
    cases ws with
    | nil => cases e
    | cons a r =>
      cases r with
      | nil => cases e
      | cons b r =>
        rw [List.map_cons, List.map_cons] at e
        obtain ⟨e1, e⟩ := List.cons.inj e
        obtain ⟨e2, e3⟩ := List.cons.inj e
        exact ⟨b :: a :: r, .swap a b r, by rw [List.map_cons, List.map_cons, e1, e2, e3]⟩
  | trans _ _ ih1 ih2 =>
    intro ws e
    obtain ⟨w1, p1, m1⟩ := ih2 ws e
    obtain ⟨w2, p2, m2⟩ := ih1 w1 m1
    exact ⟨w2, p2.trans p1, m2⟩
end LL
/-! LL9: sorted lists of texts are told by what is in them; isinstance of one own class with another. -/
namespace LL
open PySem PySem.Spec PyProof.Rows L2
theorem str_of_cps {x y : Str} (h : x.cps.toList = y.cps.toList) : x = y := by
  obtain ⟨⟨a⟩⟩ := x
  obtain ⟨⟨b⟩⟩ := y
  have e : a = b := h
  rw [e]
/-- a text does not stand behind another one -/
def leS (a b : Str) : Bool := !ltCps b.cps.toList a.cps.toList
theorem leS_iff {a b : Str} : leS a b = true ↔ a.cps.toList ≤ b.cps.toList := by
  unfold leS
  rw [ltCps_eq, ← List.not_lt]
  by_cases h : b.cps.toList < a.cps.toList <;> simp [h]
theorem leS_trans (a b c : Str) (h1 : leS a b = true) (h2 : leS b c = true) : leS a c = true := leS_iff.mpr (List.le_trans (leS_iff.mp h1) (leS_iff.mp h2))
theorem leS_total (a b : Str) : (leS a b || leS b a) = true := by
  rcases List.le_total a.cps.toList b.cps.toList with h | h
  · rw [leS_iff.mpr h, Bool.true_or]
  · rw [leS_iff.mpr h, Bool.or_true]
theorem leS_anti {a b : Str} (h1 : leS a b = true) (h2 : leS b a = true) : a = b := str_of_cps (List.le_antisymm (leS_iff.mp h1) (leS_iff.mp h2))
theorem rising_pw : ∀ (l : List Str) (p : Str), risingS p l = true → (p :: l).Pairwise fun a b => leS a b = true
  | [], p, _ => by simp
  | x :: r, p, h => by
    obtain ⟨h1, h2⟩ := Bool.and_eq_true_iff.mp h
    have ih := rising_pw r x h2
    refine List.pairwise_cons.mpr ⟨fun y hy => ?_, ih⟩
    rcases List.mem_cons.mp hy with rfl | hy
    · exact h1
    · exact leS_trans _ _ _ h1 ((List.pairwise_cons.mp ih).1 y hy)
theorem sortedS_pw {l : List Str} (h : sortedS l = true) : l.Pairwise fun a b => leS a b = true := by
  cases l with
  | nil => exact List.Pairwise.nil
  | cons x r => exact rising_pw r x h
/-- a list in the sequence of its keys -/
def sortK {α : Type} (f : α → Str) (l : List α) : List α := l.mergeSort fun a b => leS (f a) (f b)
theorem sortK_perm {α : Type} {f : α → Str} {l : List α} : (sortK f l).Perm l := List.mergeSort_perm _ _
theorem sortK_pw {α : Type} {f : α → Str} {l : List α} : (sortK f l).Pairwise fun a b => leS (f a) (f b) = true := List.pairwise_mergeSort (le := fun a b => leS (f a) (f b)) (fun a b c => leS_trans (f a) (f b) (f c)) (fun a b => leS_total (f a) (f b)) l
theorem inj_of_nodup {α β : Type} {f : α → β} : ∀ {l : List α} {a b : α}, (l.map f).Nodup → a ∈ l → b ∈ l → f a = f b → a = b
  | [], _, _, _, h, _, _ => by cases h
  | x :: r, a, b, nd, ha, hb, e => by
    rw [List.map_cons, List.nodup_cons] at nd
    rcases List.mem_cons.mp ha with ea | ha <;> rcases List.mem_cons.mp hb with eb | hb
    · rw [ea, eb]
    · rw [ea] at e
      exact absurd (List.mem_map.mpr ⟨b, hb, e.symm⟩) nd.1
    · rw [eb] at e
      exact absurd (List.mem_map.mpr ⟨a, ha, e⟩) nd.1
    · exact inj_of_nodup nd.2 ha hb e
theorem sortK_is {α : Type} {f : α → Str} {l1 l : List α} (h : l1.Perm l) (nd : (l.map f).Nodup) (s : sortedS (l1.map f) = true) : l1 = sortK f l := by
  have p : l1.Perm (sortK f l) := h.trans sortK_perm.symm
  refine List.Perm.eq_of_pairwise (le := fun a b => leS (f a) (f b) = true) (fun a b ha hb h1 h2 => ?_) (List.pairwise_map.mp (sortedS_pw s)) sortK_pw p
  have e := leS_anti h1 h2
  have hb' : b ∈ l := sortK_perm.mem_iff.mp hb
  have ha' : a ∈ l := h.mem_iff.mp ha
  exact inj_of_nodup nd ha' hb' e
/-- isinstance(an instance of C, D): the answer b -/
def kitOB (K : PySem.W.Frag) (C D : Str) (b : Bool) : Bool := decide (PySem.W.kitOne K (.ref (He.ga K C)) (.ref (He.ga K D)) = some b)
theorem kitOB_ok {K : PySem.W.Frag} {C D : Str} {b : Bool} (h : kitOB K C D b = true) : PySem.W.kitOne K (.ref (He.ga K C)) (.ref (He.ga K D)) = some b := of_decide_eq_true h
end LL
/-! LL10: static methods, class methods of own classes. -/
namespace LL
open PySem PySem.Spec PyProof.Rows L2
/-- the def in the class's record of a static or a class method -/
def wfn (K : PySem.W.Frag) (C : Str) (T : String) (m : Str) : Addr := match PySem.W.recIn K (He.ma K (He.ga K C) m) T with
  | some (.ref f :: _) => f
  | _ => 0
def wrpB (K : PySem.W.Frag) (C : Str) (T gid : String) (m : Str) : Bool := (match PySem.W.findCls K (.ref (He.ga K C)) (.type "type") m with
    | some (.get (.builtin g) (.ref p) .none (.ref D)) => decide (g = gid) && (decide (p = He.ma K (He.ga K C) m) && decide (D = He.ga K C))
    | _ => false) && ((match PySem.W.recIn K (He.ma K (He.ga K C) m) T with
    | some (.ref _ :: _) => true
    | _ => false) && (PySem.W.fnIn K (wfn K C T m) && PySem.W.keepIn K (.ref (wfn K C T m))))
theorem wrpB_ok {K : PySem.W.Frag} {C : Str} {T gid : String} {m : Str} (h : wrpB K C T gid m = true) :
    PySem.W.findCls K (.ref (He.ga K C)) (.type "type") m = some (.get (.builtin gid) (.ref (He.ma K (He.ga K C) m)) .none (.ref (He.ga K C))) ∧ (∃ rest, PySem.W.recIn K (He.ma K (He.ga K C) m) T = some (.ref (wfn K C T m) :: rest)) ∧
      PySem.W.fnIn K (wfn K C T m) = true ∧ PySem.W.keepIn K (.ref (wfn K C T m)) = true := by
  obtain ⟨h1, h⟩ := He.ba h
  obtain ⟨h2, h⟩ := He.ba h
  obtain ⟨h3, h4⟩ := He.ba h
  refine ⟨?_, ?_, h3, h4⟩
  · clear h2 h3 h4
    split at h1
    · rename_i g p D e
      obtain ⟨k1, k⟩ := He.ba h1
      obtain ⟨k2, k3⟩ := He.ba k
      rw [e, of_decide_eq_true k1, of_decide_eq_true k2, of_decide_eq_true k3]
    · cases h1
  · clear h3 h4
    unfold wfn
    split at h2
    · rename_i f r e
      exact ⟨r, by rw [e]⟩
    · cases h2
/-- what is read off an own class is read as usual -/
def crB (K : PySem.W.Frag) (C : Str) : Bool := PySem.W.readsIn K (He.ga K C) (.type "type") && He.eqO (PySem.W.specialIn K (.ref (He.ga K C)) "__getattribute__") (some (some (.builtin "type.__getattribute__")))
theorem crB_ok {K : PySem.W.Frag} {C : Str} (h : crB K C = true) : ClX.CRead K (He.ga K C) (.type "type") := by
  obtain ⟨h1, h2⟩ := He.ba h
  exact ⟨h1, He.eqO_ok h2⟩
def cmB (K : PySem.W.Frag) (C m : Str) : Bool := wrpB K C "classmethod" "classmethod.__get__" m
theorem cmB_ok {K : PySem.W.Frag} {C m : Str} (h : cmB K C m = true) : ClX.CMet K (He.ga K C) (.type "type") m (He.ma K (He.ga K C) m) (wfn K C "classmethod" m) := by
  obtain ⟨h1, h2, h3, _⟩ := wrpB_ok h
  exact ⟨h1, h2, h3⟩
/-- C.m is a static method: its record at p, its def at g -/
structure SMet (K : PySem.W.Frag) (C : Addr) (m : Str) (p g : Addr) : Prop where
  at_ : PySem.W.findCls K (.ref C) (.type "type") m = some (.get (.builtin "staticmethod.__get__") (.ref p) .none (.ref C))
  rc : ∃ rest, PySem.W.recIn K p "staticmethod" = some (.ref g :: rest)
  kp : PySem.W.keepIn K (.ref g) = true
def smB (K : PySem.W.Frag) (C m : Str) : Bool := wrpB K C "staticmethod" "staticmethod.__get__" m
theorem smB_ok {K : PySem.W.Frag} {C m : Str} (h : smB K C m = true) : SMet K (He.ga K C) m (He.ma K (He.ga K C) m) (wfn K C "staticmethod" m) := by
  obtain ⟨h1, h2, _, h4⟩ := wrpB_ok h
  exact ⟨h1, h2, h4⟩
/-- C.m(..), m a static method of the class C -/
def tSMeth (C : Addr) (sp : Sp) (E : XK) (ta : TE) (t : TA) : TE := fun σ H Q => ta σ H fun x H1 => x = .ref C ∧ t σ H1 fun vs H2 => sp (vs ++ []) H2 Q E
section
variable {X : Cx} {CX : CXT} {gg : Bool} {k : Nat} {C p f : Addr} {fd : FuncData} {ps : List Str} {sp : Sp} {E : XK} {o e : Expr} {es : List Expr} {m : Str} {pos apos : Pos} {ta : TE} {t : TA} {pl : Sem Bool}
theorem pg_smeth (he : PE X o ta) (r : ClX.CRead X.K C (.type "type")) (c : SMet X.K C m p f) (F : FnG X.prog X.w X.K X.mg X.base CX gg k f fd ps sp) (hr : Room k X.A) (hg : Clr gg X.A) (hb : Binds X.K fd ps []) (hx : Passes CX X E) (ha : PA X (e :: es) t)
    (hst : starEach (e :: es) X.env = (false, eval e X.env) :: starEach es X.env := by rfl) (hpl : (backTo pos (starEach es X.env)).any (·.1) = false := by rfl)
    (ht : eval (.Call (.Attribute o m apos) (e :: es) [] pos) X.env = (do
      let ov ← eval o X.env
      standAt apos.atName
      let (f, first) ← holding [ov] (getMethod ov m pl)
      callWith pos f first (backTo pos (starEach (e :: es) X.env)) (backToKw pos (keywordEach [] X.env))) := by rfl) :
    PE X (.Call (.Attribute o m apos) (e :: es) [] pos) (tSMeth C sp E ta t) := by
  constructor
  intro pins s σ H Q I h
  refine PySem.W.methodCall_KW (pl := pl) (thn (he.run pins s σ H _ I h) ?_) ht
  rintro u s1 ⟨x, H1, I1, rx, rfl, q⟩
  obtain rfl : u = Value.ref C := rx
  obtain ⟨rest, hrec⟩ := c.rc
  have I2 := I1.tok (s1.toks + 1)
  refine PySem.W.method_cls I1.kIn r.ga (PySem.W.cls_bind I1.kIn r.rd c.at_ (wpAny_call (PySem.W.sm_get (s := { s1 with toks := s1.toks + 1 }) I1.kIn hrec (PySem.W.handed_on rfl ?_))))
  refine PySem.W.callWith_K (first := []) (h₀ := X.base) I2.ok.mod.kin c.kp (thn (ha.run pos pins _ σ H1 _ I2 q) ?_) hst hpl
  rintro us s2 ⟨vs, H2, I3, rr, q2⟩
  exact ⟨I3.kIn, run_gX (us := us) (vs := vs) F hr hg hb .nil hx I3 rr q2⟩
end
end LL
/-! LL11: locked dicts in statements; loops over the items of a dict. -/
namespace LL
open PySem PySem.Spec PyProof.Rows L2
theorem r_lockS {t : TS} {n c b : L2.St → Hp → Prop} {r : VK} {σ : L2.St} {H : Hp} {d : Addr} {u : HO} (h : H d = some u) (m : Mut (some u))
    (q : ∀ od H1, H1 d = some (.frz od u) → (∀ b, b ≠ d → H1 b = H b) → t ⟨fun σ' H' => H' d = some (.frz od u) ∧ n σ' (upd H' d u), fun v H' => H' d = some (.frz od u) ∧ r v (upd H' d u), fun σ' H' => H' d = some (.frz od u) ∧ b σ' (upd H' d u), fun σ' H' => H' d = some (.frz od u) ∧ c σ' (upd H' d u)⟩ σ H1) :
    tLock t ⟨n, r, b, c⟩ σ H := ⟨d, u, h, m, fun od => q od _ upd_same fun b hb => upd_ne hb⟩
theorem r_items {td : TE} {σ : L2.St} {H : Hp} {R : It → Hp → Prop} (q : td σ H fun x H1 => ∃ d o kvs, x = .ref d ∧ H1 d = some (.frz o (.dK kvs)) ∧ R (Iti d o kvs) H1) : iItems td σ H R := q
section
variable {σ : L2.St} {H H1 : Hp} {g : TG} {tb : TS} {n : L2.St → Hp → Prop} {r : VK}
theorem u_items {d : Addr} {o : Obj} {kvs : List (Key × V)} (Pv : Nat → L2.St → Hp → Prop) (h0 : Pv 0 σ H) (hl : ∀ i σ H, i ≤ kvs.length → Pv i σ H → H d = some (.frz o (.dK kvs)))
    (hs : ∀ i k v σ T H H2, kvs[i]? = some (k, v) → Pv i σ H → H T = none → Same H H2 → H2 T = some (.tup [kV k, v]) → (∀ b, b ≠ T → H2 b = H b) → g (.ref T) σ H2 fun σ2 H3 => tb { nx := Pv (i + 1), rt := r, bk := n, ct := Pv (i + 1) } σ2 H3)
    (hd : ∀ σ H, Pv kvs.length σ H → n σ H) : ForK g tb n r σ (Iti d o kvs) H := by
  refine ⟨fun i m σ H => m = kvs.length - i ∧ i ≤ kvs.length ∧ Pv i σ H, ⟨kvs.length, by simp, Nat.zero_le _, h0⟩, ?_⟩
  rintro i m σ H ⟨rfl, hi, p⟩
  have st := hl i σ H hi p
  by_cases hlt : i < kvs.length
  · refine .inr ⟨⟨st, hlt⟩, Pv (i + 1), fun σ' H' p' => ⟨kvs.length - (i + 1), by omega, rfl, hlt, p'⟩, fun x H' y => ?_⟩
    obtain ⟨T, k, v, e, rfl, hT, rfl⟩ := y
    exact hs i k v σ T H _ e p hT (fun b o eb => by rw [upd_ne (ne_of_none eb hT)]; exact eb) upd_same fun b hb => upd_ne hb
  · have e : i = kvs.length := by omega
    subst e
    exact .inl ⟨⟨st, Nat.le_refl _⟩, hd σ H p⟩
end
/-- what stays but for the locked dict at d, laid back -/
theorem same_back {H H1 : Hp} {d : Addr} {u : HO} (h : H d = some u) (k : ∀ b, b ≠ d → ∀ o, H b = some o → H1 b = some o) : Same H (upd H1 d u) := fun b o e => by
  by_cases hb : b = d
  · subst hb
    rw [upd_same, ← h, e]
  · rw [upd_ne hb]
    exact k b hb o e
end LL
namespace LL
open PySem PySem.Spec PyProof.Rows L2
theorem r_dput {n c b : L2.St → Hp → Prop} {r : VK} {σ : L2.St} {H : Hp} {td ty tv : TE} (q : tv σ H fun v H1 => td σ H1 fun x H2 => ty σ H2 fun y H3 => ∃ a H4, x = .ref a ∧ DPut H3 a y v H4 ∧ n σ H4) : sDPut td ty tv ⟨n, r, b, c⟩ σ H := q
theorem r_din {σ : L2.St} {H : Hp} {Q : VK} {td ty : TE} (q : ty σ H fun y H1 => td σ H1 fun x H2 => ∃ a o, x = .ref a ∧ DGet H2 a y o ∧ Q (.bl o.isSome) H2) : tDIn ty td σ H Q := q
end LL
/-! LL12: == of dicts whose values are compared by calls. -/
namespace LL
open PySem PySem.Spec PyProof.Rows L2 PySem.Calls
section
variable {prog : Program} {w : World} {Ky : Type} [DecidableEq Ky] {knd : KeyKind prog w Ky} {A : Around} {E : Value → Shared → Prop}
/-- two dicts pair by pair, where a comparison keeps P, and P keeps the dicts -/
theorem pairs_walk {nm : String} {a b : Addr} {oa ob : Obj} {es es2 : Array DictEntry} {ep ep2 : Nat} {va vb : List (Ky × Value)} {e : Ky → Bool} {P : Shared → Prop} {Q : Bool → Shared → Prop} {s : Shared}
    (na : (a == sysModules) = false) (nb : (b == sysModules) = false) (da : oa.data = .dict es ep) (db : ob.data = .dict es2 ep2) (ka : KeysOf knd es) (kb : KeysOf knd es2) (pa : Pairs knd es.toList va) (pb : Pairs knd es2.toList vb)
    (hA : ∀ s, P s → s.heap.get? a = some oa) (hB : ∀ s, P s → s.heap.get? b = some ob) (h0 : P s)
    (step : ∀ k v y s, (k, v) ∈ va → valueAt vb k = some y → P s → wpAny (model prog w) A (eqBool v y) (fun r s' => r = e k ∧ P s') E s)
    (done : ∀ s, P s → Q (va.length == vb.length && va.all fun kv => (valueAt vb kv.1).isSome && e kv.1) s) : wpAny (model prog w) A (Builtin.Dict.samePairs nm a b) Q E s := by
  have la : es.size = va.length := by rw [← Array.length_toList]; exact pa.length
  have lb : es2.size = vb.length := by rw [← Array.length_toList]; exact pb.length
  have look : ∀ k, findBy knd.is es2 k = valueAt vb k := fun k => by
    rw [← pb.find k]
    clear lb pb kb db
    obtain ⟨l⟩ := es2
    simp [findBy]
  unfold Builtin.Dict.samePairs Builtin.Dict.showsAll
  rw [if_neg (by rw [na]; exact Bool.false_ne_true), if_neg (by rw [nb]; exact Bool.false_ne_true)]
  refine wpAny_bind (wpAny_pure (wpAny_bind (wpAny_pure (wpAny_bind (wpAny_dictEntries (hA s h0) da ?_)))))
  dsimp only
  refine wpAny_bind (wpAny_dictEntries (hB s h0) db ?_)
  by_cases hs : es.size = es2.size
  · have hl : (va.length == vb.length) = true := by rw [← la, ← lb, hs]; exact beq_self_eq_true _
    rw [if_neg (by rw [hs]; simp)]
    refine wpAny_bind (wpAny_dictEpoch (hA s h0) da (wpAny_bind ?_))
    rw [Std.Legacy.Range.forIn_eq_forIn_range']
    simp only [Std.Legacy.Range.size, Nat.sub_zero, Nat.add_sub_cancel, Nat.div_one]
    have fin : ∀ s, P s → (va.all fun kv => (valueAt vb kv.1).isSome && e kv.1) = false → Q false s := fun s p z => by
      have h := done s p
      rw [z, Bool.and_false] at h
      exact h
    refine wpAny_forIn_list _ (fun rest q s' => P s' ∧ q = (none, ()) ∧ ∃ i, rest = List.range' i (es.size - i) ∧ i ≤ es.size ∧ ((va.take i).all fun kv => (valueAt vb kv.1).isSome && e kv.1) = true) _ ?_ ?_ _ _ ⟨h0, rfl, 0, by simp, Nat.zero_le _, rfl⟩
    · rintro x rest q s' ⟨p, rfl, i, hr, hi, ok⟩
      have hlt : i < es.size := by
        refine Nat.lt_of_not_le fun h => ?_
        rw [Nat.sub_eq_zero_of_le h] at hr
        simp at hr
      have hr2 : x :: rest = i :: List.range' (i + 1) (es.size - (i + 1)) := by
        rw [hr, show es.size - i = (es.size - (i + 1)) + 1 by omega, List.range'_succ]
      obtain ⟨rfl, hrest⟩ := List.cons.inj hr2
      refine wpAny_bind (wpAny_dictEntries (hA _ p) da ?_)
      rw [Array.getElem?_eq_getElem hlt]
      have hlt2 : x < va.length := by omega
      have hkv : va[x]? = some va[x] := List.getElem?_eq_getElem hlt2
      obtain ⟨key, val⟩ := pa.get? (i := x) (e := es[x]) (k := va[x].1) (v := va[x].2) (by rw [Array.getElem?_toList]; exact Array.getElem?_eq_getElem hlt) hkv
      obtain ⟨k2, hk2, hh⟩ := ka es[x] (Array.getElem_mem hlt)
      rw [knd.inj _ _ _ hk2 key] at hh
      have one : ∀ r, ((valueAt vb va[x].1).isSome && e va[x].1) = r → (va.take (x + 1)).all (fun kv => (valueAt vb kv.1).isSome && e kv.1) = r := fun r hr => by
        rw [List.take_add_one, hkv, List.all_append, ok, Bool.true_and]
        show ([va[x]].all fun kv => (valueAt vb kv.1).isSome && e kv.1) = r
        rw [List.all_cons, List.all_nil, Bool.and_true]
        exact hr
      have bad : ((valueAt vb va[x].1).isSome && e va[x].1) = false → (va.all fun kv => (valueAt vb kv.1).isSome && e kv.1) = false := fun hr => by
        have h := one _ hr
        rw [← List.take_append_drop (x + 1) va, List.all_append, h, Bool.false_and]
      show wpAny _ _ (holding [es[x].key, es[x].val] _ >>= _) _ _ _
      rw [hh]
      refine wpAny_bind (wpAny_holding (wpAny_bind (wpAny_dictFind_of key (hB _ p) db kb ?_)))
      cases hj : es2.findIdx? fun e => knd.is va[x].1 e.key with
      | none =>
        have hn : valueAt vb va[x].1 = none := by rw [← look, findBy_of_findIdx?, hj]
        refine wpAny_pure ?_
        show wpAny _ _ (if (!false) = true then _ else _) _ _ _
        rw [if_pos (by decide)]
        exact wpAny_pure (wpAny_pure (fin _ p (bad (by rw [hn]; rfl))))
      | some j =>
        obtain ⟨hjl, _, _⟩ := Array.findIdx?_eq_some_iff_getElem.mp hj
        have hv : valueAt vb va[x].1 = some es2[j].val := by
          rw [← look, findBy_of_findIdx?, hj]
          simp [Array.getElem?_eq_getElem hjl]
        refine wpAny_bind (wpAny_dictEntries (hB _ p) db ?_)
        rw [Array.getElem?_eq_getElem hjl, val]
        have mem : (va[x].1, va[x].2) ∈ va := List.getElem_mem hlt2
        refine wpAny_holding (wpAny_mono (step _ _ _ _ mem hv p) (fun r s2 hr2 => ?_) fun _ _ z => z)
        obtain ⟨re, p2⟩ := hr2
        cases r with
        | false =>
          show wpAny _ _ (if (!false) = true then _ else _) _ _ _
          rw [if_pos (by decide)]
          exact wpAny_pure (wpAny_pure (fin _ p2 (bad (by rw [← re, Bool.and_false]))))
        | true =>
          show wpAny _ _ (if (!true) = true then _ else _) _ _ _
          rw [if_neg (by decide)]
          refine wpAny_bind (wpAny_dictEpoch (hA _ p2) da ?_)
          rw [if_neg (by simp)]
          exact wpAny_pure ⟨p2, rfl, x + 1, hrest, hlt, one _ (by rw [hv, ← re]; rfl)⟩
    · rintro q s' ⟨p, rfl, i, hr, hi, ok⟩
      have hin : i = es.size := by
        refine Nat.le_antisymm hi (Nat.le_of_not_lt fun h => ?_)
        rw [show es.size - i = (es.size - (i + 1)) + 1 by omega, List.range'_succ] at hr
        cases hr
      rw [hin, la, List.take_length] at ok
      have h := done _ p
      rw [hl, ok] at h
      exact wpAny_pure h
  · rw [if_pos (by simpa using hs)]
    have hl : (va.length == vb.length) = false := by rw [← la, ← lb]; simpa using hs
    have h := done s h0
    rw [hl, Bool.false_and] at h
    exact wpAny_bind (wpAny_rule (wpAny_pure h))
end
end LL
/-! LX1: several except clauses with names; defs that let exceptions out, with guards; isinstance of a caught error; defs whose code objects have tables. -/
namespace LL
open PySem PySem.Spec PyProof.Rows L2

/-! ### except x as n, several clauses -/
/-- a clause: the class, the slot of its name, its suite's reading -/
structure Cl where
  c : Value
  i : Nat
  ts : Addr → Value → Option Addr → TS
/-- behind a suite the name's slot is empty -/
def endsOff (i : Nat) (D : Ends) : Ends := ⟨fun τ G => D.nx (τ.set i none) G, D.rt, fun τ G => D.bk (τ.set i none) G, fun τ G => D.ct (τ.set i none) G⟩
def wCls (K : PySem.W.Frag) (Wo : WX) (D : Ends) : List Cl → WX
  | [] => Wo
  | q :: r => fun cls d σ H => ∃ yes, PySem.W.exmOne K cls q.c = some yes ∧ (yes = true → ∀ a, H a = none → q.ts a cls d (endsOff q.i D) (σ.set q.i (some (.ref a))) H) ∧ (yes = false → wCls K Wo D r cls d σ H)
inductive HdAs (X : Cx) : List ExceptHandler → List Cl → Prop
  | nil : HdAs X [] []
  | cons {x n : Str} {q : Cl} {b0 : Stmt} {su : List Stmt} {p1 p2 : Pos} {hds : List ExceptHandler} {l : List Cl} (hi : X.N[q.i]? = some n) (hl : X.env.kindOf n = some .local) (hc : Names X x q.c)
      (hs : ∀ (a : Addr) (oe : Obj) (cls : Value) (d : Option Addr) (pn : List (Addr × Obj)), Zc cls d oe → (∃ vs, oe.data = .fields vs) → PSs (X.suite a ((a, oe) :: pn)) (b0 :: su) (q.ts a cls d)) (r : HdAs X hds l) :
      HdAs X (.ExceptHandler (some (.Name x p1)) (some n) (b0 :: su) p2 :: hds) (q :: l)
section
variable {X : Cx} {body : List Stmt} {h0 : ExceptHandler} {hds : List ExceptHandler} {l : List Cl} {pos : Pos} {tb : WX → TS} {Wo : WX}
theorem ps_tryAs (stk : X.stack = X.env :: X.outer) (frm : X.env.frame = some X.env.locals) (nd : X.N.Nodup) (tk : Takes X Wo)
    (hb : ∀ (W : WX) (pn : List (Addr × Obj)) (xe : Value → Shared → Prop), Takes (X.tr pn xe) W → PassesOwn (model X.prog X.w) X.A X.env xe → PSs (X.tr pn xe) body (tb W))
    (hh : HdAs X (h0 :: hds) l) : PS X (.Try body (h0 :: hds) [] [] pos) (fun D σ H => tb (wCls X.K Wo D l) D σ H) := by
  constructor
  intro pins s σ H D I want
  have good := I.ok
  have fr : X.A.frames = some (X.env :: X.outer) := by rw [good.frames, stk]
  apply wpAny_Try_except
  let catch_ : Value → Shared → Prop := fun ev t1 => wpAny (model X.prog X.w) X.A (noteFrame ev X.env) (fun _ t2 => wpAny (model X.prog X.w) X.A (setFlight ev none) (fun _ t3 => wpAny (model X.prog X.w) X.A (handleBy ev X.env (h0 :: hds)) (SP X pins D) X.xe t3) X.xe t2) X.xe t1
  refine wpAny_mono ((hb (wCls X.K Wo D l) (X.pn ++ pins) catch_ (fun u t air => ?_) PassesOwn.looking).run [] s σ H D (I.toTry _) want) (fun f t1 went => ?_) (fun ev t1 z => z)
  · obtain ⟨a, B, sI, pins', σ', H', cls, d, rfl, J0, ground, upto, sky, fresh, os, bare, wish⟩ := air
    have J : Inv X pins σ' H' sI := J0.ofTry good
    have sky2 : Sky B (X.env :: X.outer) a (Zc cls d) X.env.locals t.heap := by rw [← stk]; exact sky
    show wpAny (model X.prog X.w) X.A (noteFrame (.ref a) X.env) _ _ _
    refine Sky.land Zc.steady fr frm sky2 fun h3 fly up3 => ?_
    have J3 : Inv X pins σ' H' { t with heap := h3 } := J.landed ground fly.1 (upto.trans up3) os bare
    obtain ⟨oe, vs, e3, z3, d3⟩ := fly.there
    have off : a ∉ frs (X.env :: X.outer) := fun hm => by
      obtain ⟨_, o', e', nf⟩ := fly.2.2.1.mem hm
      rw [e3] at e'
      cases e'
      exact nf _ d3
    have nL : a ≠ X.env.locals := fun z => off (List.mem_filterMap.mpr ⟨X.env, List.mem_cons_self, by rw [frm, z]⟩)
    have nF : a ∉ X.fs := fun hm => by
      obtain ⟨e, he, q⟩ := List.mem_filterMap.mp hm
      exact off (List.mem_filterMap.mpr ⟨e, List.mem_cons_of_mem _ he, q⟩)
    have S3 := J3.suite e3 d3 fresh nL nF
    have walk : ∀ {hs' : List ExceptHandler} {l' : List Cl}, HdAs X hs' l' → wCls X.K Wo D l' cls d σ' H' → wpAny (model X.prog X.w) X.A (handleBy (.ref a) X.env hs') (SP X pins D) X.xe { t with heap := h3 } := by
      intro hs' l' hk
      induction hk with
      | nil =>
        intro wout
        apply wpAny_handleBy_nil
        obtain ⟨_, _, _, oe', vs', T, oT, ts', a1, a2, a3, a4, a5⟩ := id fly
        unfold PySem.passOn
        refine wpAny_bind (wpAny_field a1 a3 a4 ?_)
        rw [if_neg (by simp : ¬ ((Value.ref T == Value.none) = true))]
        have fin : wpAny (model X.prog X.w) X.A (setFlight (.ref a) X.env.frame) (fun _ t4 => wpAny (model X.prog X.w) X.A (throw (.ref a) : Sem Flow) (SP X pins D) X.xe t4) X.xe { t with heap := h3 } := by
          rw [frm]
          refine HandSPX.setFlight_upZ fly fun h4 held up4 => wpAny_throw (tk _ _ ⟨a, B, sI, pins, σ', H', cls, d, rfl, J, ground, (upto.trans up3).trans up4, .inr (.inr ?_), fresh, os, bare, wout⟩)
          rw [stk]
          exact held
        first
          | exact wpAny_bind (wpAny_pure (wpAny_bind fin))
          | exact wpAny_bind fin
      | @cons x n q b0 su p1 p2 hds2 l2 hi hl hc hs r ih =>
        intro ⟨yes, e1, onYes, onNo⟩
        refine wpAny_handleBy_cons (codeAny_handlers_test ?_) (fun z => nomatch z)
        have tyA : PySem.W.Looks (model X.prog X.w) h3 (typeOf (.ref a)) cls := fun A' Q' E' s' k' q' => wpAny_typeOf_ref (k' _ _ e3) (by rw [z3.1]; exact q')
        have isA := PySem.W.exm_one (M := model X.prog X.w) J3.kIn tyA e1
        have named : ∀ {Q' : Value → Shared → Prop} {E' : Value → Shared → Prop}, Q' q.c { t with heap := h3 } → wpAny (model X.prog X.w) (X.A.mark (some (.ref a))) (eval (.Name x p1) X.env) Q' E' { t with heap := h3 } := by
          intro Q' E' hq
          rcases hc with ⟨g1, g2, g3 | ⟨g3, g4, g5⟩⟩
          · exact ld_glob (X := X.suite a ((a, oe) :: (X.pn ++ pins))) S3 g1 g3 hq g2
          · exact ld_blt (X := X.suite a ((a, oe) :: (X.pn ++ pins))) S3 g1 g3 g4 hq g5 g2
        refine named (isA.here ?_)
        cases yes with
        | false => exact ih (onNo rfl)
        | true =>
          apply codeAny_handlers_suite_as
          refine HandSPX.lands_againZ fly fun h4 fly4 up4 => ?_
          have J4 : Inv X pins σ' H' { t with heap := h4 } := J.landed ground fly4.1 ((upto.trans up3).trans up4) os bare
          obtain ⟨oe4, vs4, e4, z4, d4⟩ := fly4.there
          have S4 := J4.suite e4 d4 fresh nL nF
          refine store_ok (X := X.suite a ((a, oe4) :: (X.pn ++ pins))) (v := .ref a) S4 nd hi (.inl hl) rfl (fun t5 S5 => ?_) (.inr hl)
          refine wpAny_mono ((hs a oe4 cls d (X.pn ++ pins) z4 ⟨_, d4⟩).run [] t5 _ H' _ S5 (onYes rfl a fresh)) (fun f t6 went => ?_) (fun _ _ z => False.elim z)
          have off_ : ∀ {τ : L2.St} {G : Hp} {Q' : Shared → Prop}, Inv (X.suite a ((a, oe4) :: (X.pn ++ pins))) [] τ G t6 → (∀ t7, Inv X pins (τ.set q.i none) G t7 → Q' t7) →
              wpAny (model X.prog X.w) X.A (do bindName X.env n .none; unbindBehindTheSuite X.env n p2) (fun _ t7 => Q' t7) X.xe t6 := fun S6 hq => gone_ok (S6.unsuite good) nd hi hl hq
          cases f with
          | ret u => obtain ⟨v6, τ, G, S6, r6, q6⟩ := went; exact off_ S6 fun t7 J7 => ⟨_, _, _, J7, r6, q6⟩
          | next => obtain ⟨τ, G, S6, q6⟩ := went; exact off_ S6 fun t7 J7 => ⟨_, _, J7, q6⟩
          | brk => obtain ⟨τ, G, S6, q6⟩ := went; exact off_ S6 fun t7 J7 => ⟨_, _, J7, q6⟩
          | cont => obtain ⟨τ, G, S6, q6⟩ := went; exact off_ S6 fun t7 J7 => ⟨_, _, J7, q6⟩
    exact walk hh wish
  · cases f with
    | ret u => obtain ⟨v, τ, G, J, r, q⟩ := went; exact ⟨v, τ, G, J.ofTry good, r, q⟩
    | next => obtain ⟨τ, G, J, q⟩ := went; exact wpAny_execs_nil ⟨τ, G, J.ofTry good, q⟩
    | brk => obtain ⟨τ, G, J, q⟩ := went; exact ⟨τ, G, J.ofTry good, q⟩
    | cont => obtain ⟨τ, G, J, q⟩ := went; exact ⟨τ, G, J.ofTry good, q⟩
end
theorem takesNo {X : Cx} : Takes X (fun _ _ _ _ => False) := takes_none5

/-! ### isinstance of a caught error that has a dict -/
section
open PySem.W
variable {prog : Program} {w : World} {A : Around} {s : Shared} {K : Frag} {x D : Addr} {ox od : Obj}
theorem cls_exc {fr : Around} {F : Option Value → Shared → Prop} {G : Value → Shared → Prop} (T : ExcC K D) (kin : K.In s.heap) (at_ : PySem.W.InstAt s.heap x ox D (some od)) (q : F (some (.ref D)) { s with toks := s.toks + 1 }) :
    wpAny (model prog w) fr (getAttr? (.ref x) "__class__") F G s := by
  have there : (clsIn K D).isSome = true := by
    obtain ⟨cd, e, _⟩ := any_some T.hd
    rw [e]; rfl
  have found : findObj K D (some od) "__class__" = some (.bind (.builtin "getset_descriptor.__get__") (.builtin "object.__class__")) := findObj_data there T.ha T.hn T.ht
  obtain ⟨hp, gens, dr, tk, os⟩ := s
  have ty := at_.type (M := model prog w)
  have own := looks_findIn (M := model prog w) kin T.hg
  have none_ := looks_findIn (M := model prog w) kin T.hk
  have look := looks_find (M := model prog w) kin at_ found
  have isB : Looks (model prog w) hp (isInstance (.ref x) (.type "BaseException")) true := ty.andThen (looks_subIn kin T.hs)
  have ne1 : (Value.builtin "BaseException.__getattribute__" == Value.builtin "object.__getattribute__") = false := by decide +kernel
  have ne0 : (onTheHeap (Value.ref D) && (Value.builtin "BaseException.__getattribute__" == Value.builtin "object.__getattribute__")) = false := by rw [ne1, Bool.and_false]
  unfold getAttr? getAttrBy? getAttrBy; refine wpAny_bind (wpAny_mkText (wpAny_bind (wpAny_attempt (wpAny_holding (wpAny_bind (ty.at (wpAny_bind (own.at ?_))))))))
  show wpAny _ _ (if (onTheHeap (Value.ref D) && (Value.builtin "BaseException.__getattribute__" == Value.builtin "object.__getattribute__")) = true then _ else _) _ _ _
  rw [ne0, if_neg Bool.false_ne_true]; unfold getAttrByItsOwn hookBefore
  refine wpAny_bind ?_; rw [if_pos (show onTheHeap (.ref D) = true by rfl)]
  refine none_.at (wpAny_bind (wpAny_attempt (wpAny_holding ?_)))
  unfold callGetattribute; rw [show (false && onTheHeap (Value.builtin "BaseException.__getattribute__")) = false by rfl, if_neg Bool.false_ne_true]
  unfold boundAndCalled; rw [PySem.F.excAttr_ValueError.ga.bind (.ref x)]
  refine wpAny_bind (wpAny_pure ?_)
  show wpAny _ _ (call (.builtin "BaseException.__getattribute__") [.ref x, .str "__class__" tk]) _ _ _
  refine wpAny_call (codeAny_call_builtin PySem.F.excAttr_ValueError.ga.plain PySem.F.entry_bexc_ga (@check_slot (model prog w) _ _ ⟨hp, gens, dr, tk + 1, os⟩ "BaseException.__getattribute__" "BaseException" "__getattribute__" (.ref x) [.str "__class__" tk] [] _ (by decide +kernel) (by decide +kernel) isB (PySem.F.args_bexc_ga (.ref x) (.str "__class__" tk)) ?_))
  unfold Builtin.«object.__getattribute__»; refine wpAny_bind (wpAny_of_eq (a := ((Value.ref x : Value), [Value.str "__class__" tk])) (by first | rfl | (simp only [slotArgs]; rfl)) (wpAny_bind (wpAny_pure (wpAny_bind (ty.at (wpAny_bind (look.at ?_)))))))
  show wpAny _ _ (holding [Value.builtin "object.__class__"] (call (.builtin "getset_descriptor.__get__") [.builtin "object.__class__", .ref x, .ref D]) >>= ret) _ _ _
  refine wpAny_bind (wpAny_holding (wpAny_call (class_get (s := ⟨hp, gens, dr, tk + 1, os⟩) (ox := ox) (od := some od) kin at_ T.hm (wpAny_pure ?_))))
  show wpAny _ _ (handedOut (.ref D)) _ _ _
  rw [handedOut_of (v := .ref D) rfl]
  first
    | exact wpAny_pure (wpAny_pure q)
    | exact wpAny_pure q
    | exact wpAny_pure (wpAny_bind (wpAny_pure (wpAny_pure q)))
theorem kitE (T : ExcC K D) (od : Obj) : KitX K (.ref x) (.ref D) (fun h => InstAt h x ox D (some od)) := by
  obtain ⟨cd, e, _⟩ := any_some T.hd
  obtain ⟨o, hk, hdt⟩ : ∃ o, K.lookup D = some o ∧ o.data = .cls cd := by
    unfold clsIn at e
    split at e
    · rename_i q; cases e; exact ⟨_, q, rfl⟩
    · cases e
  refine ⟨fun _ _ _ I => I.type, fun _ _ X _ A' Q' E' s' k q => ?_, fun h tp dd its n sl X htp => ?_, fun X I k => cls_exc T X I k⟩
  · unfold isType loadHead
    refine wpAny_bind (wpAny_loadPart (k _ _ (X _ _ hk)) ?_)
    rw [hdt]
    exact wpAny_pure q
  · refine Bool.eq_false_iff.mpr fun q => ?_
    obtain rfl := Value.ref.inj (beq_iff_eq.mp q)
    have z := (X _ _ hk).symm.trans htp
    rw [Option.some.inj z] at hdt
    cases hdt
end
/-- isinstance(e, c) of the caught error e, an instance of D with a dict -/
theorem call_isED {X : Cx} {a D dd : Addr} {oe : Obj} {pn : List (Addr × Obj)} (T : ExcC X.K D) (hz : Zc (.ref D) (some dd) oe) (hf : ∃ vs, oe.data = .fields vs) :
    CallR (X.suite a ((a, oe) :: pn)) (.builtin "isinstance") (fun xs H Q => ∃ (c : V) (cv : Value) (b : Bool) (fs : List (Str × V)), xs = [.ref a, c] ∧ H dd = some (.xd fs) ∧ (∀ u, RelV c u → u = cv) ∧ PySem.W.kitOne X.K (.ref D) cv = some b ∧ Q (.bl b) H) := by
  intro pins s σ H xs us Q I r h
  obtain ⟨c, cv, b, fs, rfl, ed, hcv, e, q⟩ := h
  obtain ⟨u1, u2, rfl, r1, r2⟩ : ∃ u1 u2, us = [u1, u2] ∧ RelV (.ref a) u1 ∧ RelV c u2 := by
    cases r with
    | cons r1 r => cases r with
      | cons r2 r => cases r; exact ⟨_, _, rfl, r1, r2⟩
  obtain rfl : u1 = Value.ref a := r1
  obtain rfl := hcv _ r2
  have at_ := (I.pin (a, oe) (List.mem_append.mpr (.inl List.mem_cons_self))).1
  obtain ⟨vs, hv⟩ := hf
  have hx : ObjOk X.prog X.w H s.heap dd (.xd fs) := I.hok dd _ ed
  obtain ⟨mA, hns, _⟩ := hx
  obtain ⟨od, ho, _⟩ := lookIn_ns hns
  have J : PySem.W.InstAt s.heap a oe D (some od) := ⟨at_, hz.1, by unfold PySem.W.notCls; rw [hv] <;> rfl, by rw [hz.2]; exact ho⟩
  exact PySem.W.kia_one (kitE T od) I.kIn J e (fun z => nomatch z) fun tk => ⟨.bl b, H, I.kept (t' := tk) fun _ _ z => z, rfl, q⟩
end LL
/-! LX2: raising, what is raised; repr of any data; the head and the end where code objects have tables. -/
namespace LL
open PySem PySem.Spec PyProof.Rows L2

/-! ### own exceptions over ValueError: facts by a Bool -/
def oexO (C : Addr) : Obj → Bool
  | ⟨.type t, _, .cls cd, sl⟩ => (match sl.toList with
    | [_, _, _, _, some (.builtin n), _] => decide (t = "type") && (decide (n = "ValueError.__new__") && (!cd.hasDel && (cd.hasDict && (match cd.mro with
      | .ref c :: bm => decide (c = C) && PySem.HandSPX.refsVE bm
      | _ => false))))
    | _ => false)
  | _ => false
theorem oexO_ok {C : Addr} {o : Obj} (h : oexO C o = true) : ∃ nm q N bs bm sn sub ab col dd k0 k1 k2 k3 k5, o = excClassObj nm q C N bs bm true sn sub ab col dd k0 k1 k2 k3 k5 "ValueError.__new__" ∧ PySem.HandSPX.refsVE bm = true := by
  unfold oexO at h
  split at h
  · rename_i t od cd sl
    split at h
    · rename_i k0 k1 k2 k3 n k5 e2
      have h1 := He.ba h
      have h2 := He.ba h1.2
      have h3 := He.ba h2.2
      have h4 := He.ba h3.2
      clear h
      have a1 := h1.1
      have a2 := h2.1
      have a3 := h3.1
      have a4 := h4.1
      have h := h4.2
      clear h1 h2 h3 h4
      have a1 := of_decide_eq_true a1
      have a2 := of_decide_eq_true a2
      obtain ⟨nm, bs, mro, ns, qn, hd, sn, sub, ab, col, del⟩ := cd
      have a3 : del = false := by cases del <;> first | rfl | cases a3
      have a4 : hd = true := a4
      subst a1 a2 a3 a4
      dsimp only at h
      split at h
      · rename_i c bm
        obtain ⟨a5, a6⟩ := He.ba h
        have a5 := of_decide_eq_true a5
        subst a5
        have es : sl = #[k0, k1, k2, k3, some (.builtin "ValueError.__new__"), k5] := by
          obtain ⟨l⟩ := sl
          have e2 : l = _ := e2
          rw [e2]
        exact ⟨nm, qn, ns, bs, bm, sn, sub, ab, col, od, k0, k1, k2, k3, k5, by rw [es], a6⟩
      · cases h
    · cases h
  · cases h
def oexB (K : PySem.W.Frag) (C : Addr) : Bool := (match K.lookup C with
  | some o => oexO C o
  | none => false) && (He.eqO (PySem.W.findIn K (.ref C) "__setattr__") (some (some (.builtin "object.__setattr__"))) && (decide (PySem.W.subIn K (.ref C) (.type "BaseException") = some true) &&
    (decide (PySem.W.typeIn K (.ref C) = some (.type "type")) && PySem.W.keepIn K (.ref C))))
theorem oexB_ok {K : PySem.W.Frag} {C : Addr} (h : oexB K C = true) : OexC K C := by
  obtain ⟨h0, h⟩ := He.ba h
  obtain ⟨h1, h⟩ := He.ba h
  obtain ⟨h2, h⟩ := He.ba h
  obtain ⟨h3, h4⟩ := He.ba h
  refine ⟨?_, He.eqO_ok h1, of_decide_eq_true h2, of_decide_eq_true h3, h4⟩
  split at h0
  · rename_i o e
    obtain ⟨nm, q, N, bs, bm, sn, sub, ab, col, dd, k0, k1, k2, k3, k5, eo, hm⟩ := oexO_ok h0
    exact ⟨nm, q, N, bs, bm, sn, sub, ab, col, dd, k0, k1, k2, k3, k5, by rw [e, eo], hm⟩
  · cases h0
/-- such a class with a def for __init__ -/
structure Oex (K : PySem.W.Frag) (C f : Addr) : Prop where
  o : OexC K C
  i : PySem.W.findIn K (.ref C) "__init__" = some (some (.ref f))
  t : PySem.W.typeIn K (.ref f) = some (.type "function")
  x : XfC K C
  e : ExcC K C
def oexF (K : PySem.W.Frag) (C : Str) (f : Addr) : Bool := oexB K (He.ga K C) && (He.eqO (PySem.W.findIn K (.ref (He.ga K C)) "__init__") (some (some (.ref f))) && (decide (PySem.W.typeIn K (.ref f) = some (.type "function")) && (xfB K (He.ga K C) && isiB K C)))
theorem oexF_ok {K : PySem.W.Frag} {C : Str} {f : Addr} (h : oexF K C f = true) : Oex K (He.ga K C) f := by
  obtain ⟨h1, h⟩ := He.ba h
  obtain ⟨h2, h⟩ := He.ba h
  obtain ⟨h3, h⟩ := He.ba h
  obtain ⟨h4, h5⟩ := He.ba h
  have x := xfB_ok h4
  have i := isiB_ok h5
  exact ⟨oexB_ok h1, He.eqO_ok h2, of_decide_eq_true h3, x, ⟨x.ga, x.gg, x.exC, x.hdC, i.ha, i.hn, i.ht, i.hm⟩⟩

/-! ### what is raised -/
/-- an error of the class at C with f = v is raised, its dict new -/
def ExV (C : Addr) (f : Str) (v : V) (H : Hp) (E : XK) : Prop := ∀ dd H', H dd = none → Same H H' → H' dd = some (.xd [(f, v)]) → E (.ref C) (some dd) H'
theorem ExV.of {C : Addr} {f : Str} {v : V} {H : Hp} {E : XK} (x : ExV C f v H E) {dd : Addr} (hn : H dd = none) : E (.ref C) (some dd) (upd H dd (.xd [(f, v)])) :=
  x dd _ hn (fun b o e => by rw [upd_ne (ne_of_none e hn)]; exact e) upd_same
theorem ExV.same {C : Addr} {f : Str} {v : V} {H H' : Hp} {E : XK} (x : ExV C f v H E) (s : Same H H') : ExV C f v H' E := fun dd H2 hn s2 e => x dd H2 (s.free hn) (s.trans s2) e
/-- __init__(self, v): self.f = v -/
def sp_exi (K : PySem.W.Frag) (f : Str) : Sp := fun vs H Q _ => ∃ a C v, vs = [.ref a, v] ∧ OexC K C ∧ PySem.W.findIn K (.ref C) f = some none ∧ H a = some (exo a C none) ∧ ∀ dx, H dx = none → dx ≠ a → Q .non (upd (upd H dx (exd dx [(f, v)])) a (exo a C (some dx)))
/-- raise C(v): what is asked -/
theorem use_raise {K : PySem.W.Frag} {C : Addr} {f : Str} {v : V} {vs : List V} {H : Hp} {E Q : XK} (o : OexC K C) (no : PySem.W.findIn K (.ref C) f = some none) (e : vs = [v]) (q : ExV C f v H Q) :
    vs.length ≤ 1000 ∧ ∀ a, H a = none → sp_exi K f (.ref a :: (vs ++ [])) (upd H a (exo a C none)) (fun u H2 => u = .non ∧ ∃ (d : Addr) (fs : List (Str × V)), H2 a = some (exo a C (some d)) ∧ H2 d = some (exd d fs) ∧ H d = none ∧ Q (.ref C) (some d) (upd (del H2 a) d (.xd fs))) E := by
  subst e
  refine ⟨by show 1 ≤ 1000; decide, fun a ha => ⟨a, C, v, rfl, o, no, upd_same, fun dx hdx ne => ⟨rfl, dx, [(f, v)], upd_same, ?_, ?_, ?_⟩⟩⟩
  · rw [upd_ne ne, upd_same]
  · rw [upd_ne ne] at hdx; exact hdx
  · have hd : H dx = none := by rw [upd_ne ne] at hdx; exact hdx
    have eq : upd (del (upd (upd (upd H a (exo a C none)) dx (exd dx [(f, v)])) a (exo a C (some dx))) a) dx (.xd [(f, v)]) = upd H dx (.xd [(f, v)]) := by
      funext b
      by_cases h1 : b = dx
      · subst h1; rw [upd_same, upd_same]
      · rw [upd_ne h1, upd_ne h1]
        by_cases h2 : b = a
        · subst h2; rw [del_same, ha]
        · rw [del_ne h2, upd_ne h2, upd_ne h1, upd_ne h2]
    rw [eq]
    exact q.of hd
theorem r_mko {C : Addr} {sp : Sp} {dvs : List V} {ta : TA} {σ : L2.St} {H : Hp} {Q : XK} (q : ta σ H fun vs H1 => vs.length ≤ 1000 ∧ ∀ a, H1 a = none → sp (.ref a :: (vs ++ dvs)) (upd H1 a (exo a C none))
    (fun v H2 => v = .non ∧ ∃ (d : Addr) (fs : List (Str × V)), H2 a = some (exo a C (some d)) ∧ H2 d = some (exd d fs) ∧ H1 d = none ∧ Q (.ref C) (some d) (upd (del H2 a) d (.xd fs))) (fun _ _ _ => False)) : tMkO C sp dvs ta σ H Q := q

/-! ### defs that may raise -/
/-- the code object of the def at f -/
def codeOf (K : PySem.W.Frag) (f : Addr) : Option Addr := match K.lookup f with
  | some o => (match o.data with
    | .func fd => (match fd.code with
      | .ref c => some c
      | _ => none)
    | _ => none)
  | none => none
section
variable {P : Program} {w : World} {K : PySem.W.Frag} {mg : Str → Option Value} {base : Heap} {CX : CXT} {g : Bool} {k : Nat} {f : Addr} {fd : FuncData} {ps N : List Str} {sp : Sp} {x qual : Str} {args : Arguments} {body : List Stmt} {sc : Scope} {dvs : List V} {kws : List (Str × V)}
theorem funX (F : FunD K x qual args body sc dvs kws f fd) (S : FnScope N ps sc) (len : ∀ vs H Q E, sp vs H Q E → vs.length = ps.length)
    (hb : ∀ (cdv : Value) (A : Around) (outer : List Env) (s : Shared) (H : Hp) (vs : List V) (Q : VK) (E : XK), (∀ c, codeOf K f = some c → cdv = .ref c) → Room k (A.deeper (envOfC qual sc s.heap.objs.size f cdv)) → Clr g (A.deeper (envOfC qual sc s.heap.objs.size f cdv)) → sp vs H Q E →
      ∃ t, PSs (cxOf CX P w K mg base N qual sc f cdv A outer s H E) body t ∧ t { nx := fun _ H' => Q .non H', rt := Q } (start N vs) H) : FnG P w K mg base CX g (k + 1) f fd ps sp := by
  obtain ⟨oc, od, dV, kV, doc, pm, an, cdv, ct, osl, e, lk, hcd, _⟩ := F.ex
  subst e
  refine fnG_of lk hcd S len fun A outer s H vs Q E hr hg q => hb cdv A outer s H vs Q E (fun c hc => ?_) hr hg q
  unfold codeOf at hc
  rw [lk] at hc
  cases cdv <;> first | (cases hc; rfl) | cases hc
end
/-- what a call may let out is what the def may let out -/
theorem passX {X : Cx} {W : WX} {E : XK} (tk : Takes X W) (h : ∀ cls d σ H, E cls d H → W cls d σ H) : Passes (L2.CX X.prog X.w) X E := passes_call tk h
/-- a call of a def that may raise, but does not here -/
theorem passN {X : Cx} : Passes (L2.CX X.prog X.w) X (fun _ _ _ => False) := passes_call takesNo fun _ _ _ _ h => h.elim

/-! ### repr of any data -/
/-- the text of a value's repr -/
def rReprV (K : PySem.W.Frag) : List V → Hp → VK → Prop := fun xs H Q => ∃ v d, xs = [v] ∧ Dp K H v d ∧ d.showable = true ∧ d.hasDict = false ∧ d.depth ≤ 16 ∧ d.shown.length + 64 ≤ sizeLine ∧ Q (.str d.shown) H
end LL
/-! LX3: repr of any data, empty dicts too; the head and the law's call where code objects have tables. -/
namespace LL
open PySem PySem.Spec PyProof.Rows L2

theorem clr_mark {g : Bool} {A : Around} {v : Option Value} (c : Clr g A) : Clr g (A.mark v) := fun e => by
  have h := c e
  first | exact h | (simpa [Around.mark] using h)

/-! ### repr -/
/-- z is the text of v's repr, found without a change -/
def RpV (K : PySem.W.Frag) (H : Hp) (v : V) (z : Str) : Prop := (∃ d, Dp K H v d ∧ d.showable = true ∧ d.hasDict = false ∧ d.depth ≤ 16 ∧ z = d.shown ∧ z.length ≤ sizeLine) ∨ (∃ a, v = .ref a ∧ H a = some (.dK []) ∧ z = PyData.shown (.dict []))
def rRpV (K : PySem.W.Frag) : List V → Hp → VK → Prop := fun xs H Q => ∃ v z, xs = [v] ∧ RpV K H v z ∧ Q (.str z) H
theorem shown_dict0 : (PyData.shown (.dict [])).length ≤ sizeLine := by decide +kernel
section
variable {X : Cx}
theorem cr_reprV (hg : Clr true X.A) (hu : X.A.units + 64 < cLine) : CallR X (.builtin "repr") (rRpV X.K) := by
  intro pins s σ H xs us Q I r h
  obtain ⟨v, z, rfl, hv, q⟩ := h
  obtain ⟨u, rfl, ru⟩ := vals1 r
  rcases hv with ⟨d, hd, h1, h2, h3, rfl, h4⟩ | ⟨a, rfl, ha, rfl⟩
  · cases hd with
    | non => cases ru; exact PySem.P.repr_of_none ⟨.str _, H, I.tok _, ⟨s.toks, rfl⟩, q⟩
    | bl b =>
      cases ru
      refine PySem.P.repr_of_bool ⟨.str (PyData.shown (.bool b)), H, I.tok _, ⟨s.toks, ?_⟩, q⟩
      cases b <;> rfl
    | int i =>
      obtain ⟨t, rfl⟩ := ru
      exact PySem.P.repr_of_int (of_decide_eq_true h1) ⟨.str _, H, I.tok _, ⟨s.toks, rfl⟩, q⟩
    | str x =>
      obtain ⟨t, rfl⟩ := ru
      exact PySem.P.repr_of_str ⟨.str _, H, I.tok _, ⟨s.toks, rfl⟩, q⟩ h4
    | lst hs hd =>
      cases ru
      obtain ⟨as, rd⟩ := Dp.reads I _ _ _ (Dp.lst hs hd) (show RelV (.ref _) (Value.ref _) from rfl)
      exact repr_of_reads' rd h1 (PyData.noDict_hsm h2) (hg rfl) (by omega) (fun _ _ z => z) (fun h' v tk hk => ⟨.str _, H, I.kept hk, ⟨_, rfl⟩, q⟩) h4
    | tup hs hd =>
      cases ru
      obtain ⟨as, rd⟩ := Dp.reads I _ _ _ (Dp.tup hs hd) (show RelV (.ref _) (Value.ref _) from rfl)
      exact repr_of_reads' rd h1 (PyData.noDict_hsm h2) (hg rfl) (by omega) (fun _ _ z => z) (fun h' v tk hk => ⟨.str _, H, I.kept hk, ⟨_, rfl⟩, q⟩) h4
  · cases ru
    obtain ⟨_, ns, vs, rel, o, es, ep, ho, ex, hd, _, pr, _⟩ := dk_of I.hok ha
    cases rel
    have e0 : es.toList = [] := by cases hp : es.toList with
      | nil => rfl
      | cons x l => rw [hp] at pr; cases pr
    have rd : Reads s.heap (.ref a) (.dict []) (a :: [] ++ []) := .dict ho ex.1 hd (by rw [e0]; exact .nil) (by rw [e0]; exact .nil)
    exact repr_of_reads' rd (by decide +kernel) (fun _ hm => by simp at hm; rw [← hm] at ns; simp at ns) (hg rfl) (by show X.A.units + (1 + 1) < cLine; omega) (fun _ _ z => z) (fun h' v tk hk => ⟨.str _, H, I.kept hk, ⟨_, rfl⟩, q⟩) shown_dict0
end

theorem cr_reprVK {X : Cx} {K' : PySem.W.Frag} (hg : Clr true X.A) (hu : X.A.units + 64 < cLine) (hK : X.K = K' := by rfl) : CallR X (.builtin "repr") (rRpV K') := by
  subst hK
  exact cr_reprV hg hu
/-! ### tables -/
/-- the def at f: its code object, its table -/
def tabOf (K : PySem.W.Frag) (f : Addr) : Option (Addr × Addr) := match codeOf K f with
  | some c => (match K.lookup c with
    | some o => (match o.data with
      | .fields vs => (match (vs.toList[11]? : Option Value) with
        | some (Value.ref P) => some (c, P)
        | _ => none)
      | _ => none)
    | none => none)
  | none => none
def tabsIn (K : PySem.W.Frag) (fs : List Str) : List (Addr × Addr) := fs.filterMap fun x => tabOf K (He.ga K x)
/-- the fragment without what stands at these addresses -/
def cutF (K : PySem.W.Frag) (l : List Addr) : PySem.W.Frag := K.filter fun p => !l.contains p.1
theorem cutF_lookup {K : PySem.W.Frag} {l : List Addr} {a : Addr} : (cutF K l).lookup a = if l.contains a then none else K.lookup a := by
  induction K with
  | nil => cases h : l.contains a <;> simp [cutF, h]
  | cons p r ih =>
    obtain ⟨b, o⟩ := p
    unfold cutF at ih ⊢
    by_cases hb : l.contains b = true
    · rw [List.filter_cons_of_neg (by simp only [hb]; decide), ih]
      by_cases ha : l.contains a = true
      · rw [if_pos ha, if_pos ha]
      · rw [if_neg ha, if_neg ha]
        have : (a == b) = false := by
          refine beq_eq_false_iff_ne.mpr fun z => ?_
          rw [z] at ha
          exact ha hb
        simp [List.lookup, this]
    · rw [List.filter_cons_of_pos (by simp only [Bool.not_eq_true] at hb; simp only [hb]; decide)]
      by_cases e : a = b
      · subst e
        rw [if_neg hb]
        simp [List.lookup]
      · have : (a == b) = false := beq_eq_false_iff_ne.mpr e
        simp only [List.lookup, this]
        exact ih
theorem cutF_in {K : PySem.W.Frag} {l : List Addr} {h : Heap} (X : K.In h) : (cutF K l).In h := fun a o e => X a o (by
  rw [cutF_lookup] at e
  split at e
  · cases e
  · exact e)
theorem cutF_not {K : PySem.W.Frag} {l : List Addr} {a : Addr} (h : a ∈ l) : (cutF K l).lookup a = none := by
  rw [cutF_lookup, if_pos (List.contains_iff_mem.mpr h)]
/-- a table that is empty -/
def isTab0 : Option Obj → Bool
  | some ⟨.none, none, .fields vs, sl⟩ => decide (vs.size = 0) && decide (sl.size = 0)
  | _ => false
theorem isTab0_ok {o : Option Obj} (h : isTab0 o = true) : o = some { cls := .none, data := .fields #[] } := by
  unfold isTab0 at h
  split at h
  · rename_i vs sl
    obtain ⟨h1, h2⟩ := He.ba h
    have h1 := of_decide_eq_true h1
    have h2 := of_decide_eq_true h2
    have e1 : vs = #[] := Array.eq_empty_of_size_eq_zero h1
    have e2 : sl = #[] := Array.eq_empty_of_size_eq_zero h2
    rw [e1, e2]
  · cases h
/-- the fragment that the head tells of: what the names reach, less the tables of the defs fs -/
def frT (n : Nat) (fs : List Str) (g : Addr → Option Obj) : PySem.W.Frag := cutF (He.frG g (He5.asA g n)) ((tabsIn (He.frG g (He5.asA g n)) fs).map (·.2))
def tabB (K : PySem.W.Frag) (g : Addr → Option Obj) (fs : List Str) : Bool := fs.all fun x => match tabOf K (He.ga K x) with
  | some (c, P) => PySem.W.codeHdIn K c P && (isTab0 (g P) && (K.lookup P).isNone)
  | none => false
def obsT (n : Nat) (fa : List He.Fa) (fn : List He5.DefA) (ex : PySem.W.Frag → Bool) (fs : List Str) (g : Addr → Option Obj) : He.AlD × Bool :=
  let K := frT n fs g
  (He5.obsA fa fn K, ex K && tabB K g fs)
/-- what the head says of the fragment and the tables -/
structure TabsOk (K : PySem.W.Frag) (h : Heap) (fs : List Str) : Prop where
  ex : ∀ x ∈ fs, ∃ c P, tabOf K (He.ga K x) = some (c, P) ∧ PySem.W.CodeHd h c P ∧ h.get? P = some { cls := .none, data := .fields #[] } ∧ K.lookup P = none
theorem tabB_ok {K : PySem.W.Frag} {h : Heap} {fs : List Str} (X : K.In h) (e : tabB K h.get? fs = true) : TabsOk K h fs := by
  refine ⟨fun x hx => ?_⟩
  have z := List.all_eq_true.mp e x hx
  split at z
  · rename_i c P q
    obtain ⟨z1, z⟩ := He.ba z
    obtain ⟨z2, z3⟩ := He.ba z
    exact ⟨c, P, q, PySem.W.codeHd_of_K X z1, isTab0_ok z2, Option.isNone_iff_eq_none.mp z3⟩
  · cases z
def hookT (n : Nat) (fa : List He.Fa) (fn : List He5.DefA) (ex : PySem.W.Frag → Bool) (fs : List Str) : PySem.W.Hook where
  α := He.AlD × Bool
  obs := fun s => obsT n fa fn ex fs s.heap.get?
  val := fun _ => (He5.valA fn, true)
  says := fun _ h => ∃ K : PySem.W.Frag, K.In h ∧ He5.SaysA fa fn K ∧ ex K = true ∧ TabsOk K h fs
  of := fun _ s e => by
    have X : (frT n fs s.heap.get?).In s.heap := cutF_in He.frG_in
    have e2 : (ex (frT n fs s.heap.get?) && tabB (frT n fs s.heap.get?) s.heap.get? fs) = true := congrArg Prod.snd e
    obtain ⟨a, b⟩ := He.ba e2
    exact ⟨_, X, congrArg Prod.fst e, a, tabB_ok X b⟩
  keeps := fun _ _ _ ⟨K, hK, c, x, t⟩ k => ⟨K, PySem.W.Frag.In.keeps hK k, c, x, ⟨fun y hy => by
    obtain ⟨c, P, a1, a2, a3, a4⟩ := t.ex y hy
    exact ⟨c, P, a1, a2.keeps k, k _ _ a3, a4⟩⟩⟩
theorem obsT_eq {n : Nat} {fa : List He.Fa} {fn : List He5.DefA} {ex : PySem.W.Frag → Bool} {fs : List Str} {g : Addr → Option Obj} {s : Shared} (h : ∀ a, g a = s.heap.get? a) : obsT n fa fn ex fs g = (hookT n fa fn ex fs).obs s := by
  have e : g = s.heap.get? := funext h
  subst e
  rfl
end LL
/-! LX4: the law's call where code objects have tables. -/
namespace LL
open PySem PySem.Spec PyProof.Rows L2 LamX

/-- nothing is tracked but the script, if the fragment does not tell it, and the tables -/
def firstH (K : PySem.W.Frag) (Ts : List Addr) (a : Addr) (us : List Value) (ns : List Int) : Hp := fun b =>
  if b ∈ Ts then some (.tbl #[]) else if b = a then (match K.lookup a with
    | some _ => none
    | none => some (.frz { cls := .type "list", data := .seq us.toArray } (.lst (ns.map V.int)))) else none
section
variable {K : PySem.W.Frag} {Ts : List Addr} {a : Addr} {us : List Value} {ns : List Int}
theorem firstH_tab {b : Addr} (h : b ∈ Ts) : firstH K Ts a us ns b = some (.tbl #[]) := if_pos h
theorem firstH_cases {b : Addr} {u : HO} (h : firstH K Ts a us ns b = some u) : (b ∈ Ts ∧ u = .tbl #[]) ∨ (b ∉ Ts ∧ b = a ∧ K.lookup a = none ∧ u = .frz { cls := .type "list", data := .seq us.toArray } (.lst (ns.map V.int))) := by
  unfold firstH at h
  by_cases h1 : b ∈ Ts
  · rw [if_pos h1] at h; cases h; exact .inl ⟨h1, rfl⟩
  · rw [if_neg h1] at h
    by_cases h2 : b = a
    · rw [if_pos h2] at h
      match hk : K.lookup a, h with
      | some o, h => cases h
      | none, h => cases h; exact .inr ⟨h1, h2, rfl, rfl⟩
    · rw [if_neg h2] at h; cases h
end
theorem law_gT {P : Program} {w : World} {K : PySem.W.Frag} {mg mb : Str → Option Value} {CX : CXT} {g : Bool} {k : Nat} {fa a : Addr} {fd : FuncData} {x : Str} {sp : Sp} {s0 : Shared} {us : List Value} {ns : List Int} {tabs : List (Addr × Addr)}
    (KX : K.In s0.heap) (G : s0.heap.Ns mainGlobals mg) (B : s0.heap.Ns builtinsNs mb) (BB : ∀ x : Str, x ≠ "__name__" → mb x = bootBuiltins x) (L : s0.heap.NoLimit) (gens : s0.gens = #[])
    (tA : ∀ q ∈ tabs, s0.heap.get? q.2 = some { cls := .none, data := .fields #[] }) (tK : ∀ q ∈ tabs, K.lookup q.2 = none) (tC : ∀ q ∈ tabs, PySem.W.CodeHd s0.heap q.1 q.2)
    (main : ∃ (bm : Addr) (ob : Obj), mg "__builtins__" = some (.ref bm) ∧ bm ≠ builtinsNs ∧ s0.heap.get? bm = some ob ∧ ob.cls = .type "module" ∧ ob.dict = some builtinsNs ∧ ob.data = .plain)
    (ha : s0.heap.get? a = some { cls := .type "list", data := .seq us.toArray }) (hi : IntsAre us ns) (hl : ns.length ≤ sizeLine) (room : Room k callerA)
    (F : ∀ base : Heap, K.In base → base.Ns mainGlobals mg → (∀ q ∈ tabs, TabB base mg q.1 q.2) → FnG P w K mg base CX g k fa fd [x] sp) (bind : ∀ (s : Shared) (u : Value), BindsTo s fd ⟨[u], []⟩ [(x, u)])
    (want : ∀ H : Hp, (∀ q ∈ tabs, H q.2 = some (.tbl #[])) → SqL K H a (ns.map V.int) → sp [.ref a] H (fun v _ => v = .bl true) fun _ _ _ => False) (none_ : ∀ H e s', CX [] H s0 (fun _ _ _ => False) e s' → False) :
    codeAny (model P w) callerA (.call (.ref fa) ⟨[.ref a], []⟩) (fun r s' => r = .ok (.ret (.bool true)) ∧ OldK s0.heap s'.heap ∧ s'.os = s0.os ∧ AllBare s'.gens) s0 := by
  have rel := vals_ints hi
  have lenV := hi.length
  let Ts := tabs.map (·.2)
  have inT : ∀ q ∈ tabs, q.2 ∈ Ts := fun q hq => List.mem_map.mpr ⟨q, hq, rfl⟩
  have ofT : ∀ {b : Addr}, b ∈ Ts → ∃ q ∈ tabs, q.2 = b := fun hb => List.mem_map.mp hb
  have atT : ∀ {b : Addr}, b ∈ Ts → s0.heap.get? b = some { cls := .none, data := .fields #[] } := fun hb => by
    obtain ⟨q, hq, e⟩ := ofT hb
    rw [← e]; exact tA q hq
  let H := firstH K Ts a us ns
  have aT : a ∉ Ts := fun z => by
    have q := atT z
    rw [ha] at q
    cases q
  -- what is not tracked
  have freeOf : ∀ {b : Addr} {o : Obj}, s0.heap.get? b = some o → (∀ vs n, o.data ≠ .seq vs n) → o.data ≠ .fields #[] → H b = none := by
    intro b o e h1 h2
    match q : H b with
    | none => rfl
    | some u =>
      rcases firstH_cases q with ⟨z, _⟩ | ⟨_, z, _, _⟩
      · rw [atT z] at e; cases e; exact absurd rfl h2
      · rw [z, ha] at e; cases e; exact absurd rfl (h1 _ _)
  have up : ∀ {b : Addr} {m : Str → Option Value}, s0.heap.Ns b m → (hidT s0.heap H).Ns b m := by
    rintro b m ⟨o, es, ep, e, d, r⟩
    refine ⟨o, es, ep, hidT_get e (freeOf e (fun vs n z => ?_) fun z => ?_), d, r⟩
    · rw [d] at z; cases z
    · rw [d] at z; cases z
  have KB : K.In (hidT s0.heap H) := by
    intro b o e
    refine hidT_get (KX b o e) ?_
    match q : H b with
    | none => rfl
    | some u =>
      rcases firstH_cases q with ⟨z, _⟩ | ⟨_, z, kz, _⟩
      · obtain ⟨p, hp, ep⟩ := ofT z
        rw [← ep, tK p hp] at e; cases e
      · rw [z, kz] at e; cases e
  have TB : ∀ q ∈ tabs, TabB (hidT s0.heap H) mg q.1 q.2 := by
    intro q hq
    have tq := tA q hq
    refine ⟨?_, ?_, fun z => ?_⟩
    · obtain ⟨o, vs, file, tf, flags, tg, inF, text, tt, e1, r1, r2, r3, rest⟩ := tC q hq
      refine ⟨o, vs, file, tf, flags, tg, inF, text, tt, hidT_get e1 (freeOf e1 (fun vs n z => ?_) fun z => ?_), r1, r2, r3, rest⟩
      · rw [r2] at z; cases z
      · rw [r2] at z; cases z; simp at r3
    · obtain ⟨bm, ob, b1, b2, b3, b4, b5, b6⟩ := main
      refine ⟨bm, ob, b1, b2, fun z => ?_, fun z => ?_, hidT_get b3 (freeOf b3 (fun vs n z => ?_) fun z => ?_), b4, b5, b6⟩
      · obtain ⟨o, es, ep, e, hd, _⟩ := G
        rw [z, e] at b3; cases b3; rw [hd] at b6; cases b6
      · rw [z, tq] at b3; cases b3; cases b6
      · rw [b6] at z; cases z
      · rw [b6] at z; cases z
    · obtain ⟨o, es, ep, e, hd, _⟩ := G
      rw [z, tq] at e; cases e; cases hd
  have seq : SqL K H a (ns.map V.int) := by
    match hk : K.lookup a with
    | some o =>
      have e := KX a o hk
      rw [ha] at e
      cases e
      exact .inr ⟨_, us.toArray, _, hk, rfl, rfl, rfl, by rw [List.size_toArray, lenV]; exact hl, by simpa using rel⟩
    | none =>
      refine .inl (.inr ⟨{ cls := .type "list", data := .seq us.toArray }, ?_⟩)
      show (if a ∈ Ts then _ else _) = _
      rw [if_neg aT, if_pos rfl, hk]
  have hok : HOk P w H s0.heap := by
    intro b u q
    rcases firstH_cases q with ⟨z, rfl⟩ | ⟨_, rfl, _, rfl⟩
    · exact atT z
    · exact ⟨ha, by rw [List.length_map]; exact hl, us, _, rel, ha⟩
  obtain ⟨mc, l1, l2⟩ := L
  have M : Mod K mg (hidT s0.heap H) := ⟨KB, up G, ⟨mb, up B, BB⟩, ⟨mc, up l1, l2⟩⟩
  have e0 : Env0 P w K mg (hidT s0.heap H) callerA [] s0 H := ⟨rfl, M, fun _ _ e => of_hidT e, Nat.le_of_eq (hidT_size _ _), trivial, (fun b hb => nomatch hb), hok, .of_eq gens⟩
  refine codeAny_mono ((F _ KB (up G) TB).run callerA [] s0 H ⟨[.ref a], []⟩ [.ref a] [.ref a] _ _ room (fun _ => rfl) e0 (bind s0 (.ref a)) (.cons rfl .nil) (want H (fun q hq => firstH_tab (inT q hq)) seq)) ?_
  intro r s' h
  match r, h with
  | .error e, h => exact (none_ H e s' h).elim
  | .ok .next, h => exact h.elim
  | .ok .brk, h => exact h.elim
  | .ok .cont, h => exact h.elim
  | .ok (.ret u), h =>
    obtain ⟨v, H', os, bare, un, hok', rv, ev⟩ := h
    have ev : v = V.bl true := ev
    subst ev
    obtain rfl : u = Value.bool true := rv
    have keep : ∀ b o, b ∉ Ts → s0.heap.get? b = some o → s'.heap.get? b = some o := by
      intro b o nb e
      match q : H b with
      | none => exact un.keep b o e q (fun z => nomatch z) (by simp)
      | some u =>
        rcases firstH_cases q with ⟨z, _⟩ | ⟨_, _, _, rfl⟩
        · exact absurd z nb
        · have z1 := (hok b _ q).1
          have z2 := (hok' b _ (un.frzs b _ _ q)).1
          rw [e] at z1
          cases z1
          exact z2
    have grown : ∀ {b : Addr}, b ∈ Ts → ∃ more : Array Value, s'.heap.get? b = some { cls := .none, data := .fields more } := fun {b} hb => by
      obtain ⟨more, z⟩ := un.tbls b #[] (firstH_tab hb)
      exact ⟨_, hok' b _ z⟩
    refine ⟨rfl, ⟨fun b o e => ?_, fun b o e => ?_⟩, os, bare⟩
    · by_cases hb : b ∈ Ts
      · obtain ⟨p, hp, ep⟩ := ofT hb
        obtain ⟨more, hm⟩ := grown hb
        have e' := atT hb
        rw [e'] at e
        cases e
        subst ep
        exact .inr (.inl ⟨((tC p hp).tab (tA p hp)).isCodeTable, rfl, #[], more, rfl, by rw [Array.empty_append]; exact hm⟩)
      · exact .inl (keep b o hb e)
    · by_cases hb : b ∈ Ts
      · obtain ⟨more, hm⟩ := grown hb
        exact ⟨_, hm⟩
      · exact ⟨o, keep b o hb e⟩
theorem walk_gT {l : PySem.W.OpenLaw} {n k : Nat} {g : Bool} {q : Program} {loose : List Str} {XP : (Str → Option Value) → Heap → Prop} {YP : World → Heap → Prop} {d : DefRec} {CX : World → CXT} {x : Str}
    (hn : l.most = some n) (hn2 : n ≤ sizeLine) (hdf : d.params.defaults = []) (room : Room k callerA)
    (F : ∀ (w : World) (mg : Str → Option Value) (fa : Addr) (h : Heap), YP w h → XP mg h → h.Ns mainGlobals mg → mg d.name = some (.ref fa) →
      ∃ (K : PySem.W.Frag) (fd : FuncData) (sp : Sp) (tabs : List (Addr × Addr)), K.In h ∧ (∀ q ∈ tabs, h.get? q.2 = some { cls := .none, data := .fields #[] } ∧ K.lookup q.2 = none ∧ PySem.W.CodeHd h q.1 q.2) ∧ (∀ (s : Shared) (u : Value), BindsTo s fd ⟨[u], []⟩ [(x, u)]) ∧
        (∀ (H : Hp) (a : Addr) (ns : List Int), ns.length ≤ n → (∀ q ∈ tabs, H q.2 = some (.tbl #[])) → SqL K H a (ns.map V.int) → sp [.ref a] H (fun v _ => v = .bl true) fun _ _ _ => False) ∧
        ∀ base : Heap, K.In base → base.Ns mainGlobals mg → (∀ q ∈ tabs, TabB base mg q.1 q.2) → FnG l.prog w K mg base (CX w) g k fa fd [x] sp)
    (none_ : ∀ (w : World) (H : Hp) (s : Shared) (e : Value) (s' : Shared), CX w [] H s (fun _ _ _ => False) e s' → False) : PySem.W.WalkO q loose XP YP l.row.toRowW d [] (fun f vs => PySem.call f vs) := by
  refine Att.attach_callB hn hdf ?_
  intro w s0 s1 mg mb fa o pm cd doc a us ns G Y ho hd hcd hmg hobj hints hlen hbits gens
  obtain ⟨K, fd, sp, tabs, KX, hT, hb, hsp, hF⟩ := F w mg fa _ Y G.X G.T.g hmg
  exact law_gT KX G.T.g G.T.b G.T.builtins G.T.nolimit gens (fun q hq => (hT q hq).1) (fun q hq => (hT q hq).2.1) (fun q hq => (hT q hq).2.2) G.T.bmain hobj hints (Nat.le_trans hlen hn2) room hF hb (fun H hH hS => hsp H a ns hlen hH hS) (fun H e s' => none_ w H s1 e s')
end LL
/-! LX5: what stays (Fr); a lambda handed to a def of the text; the def that calls it in a try. -/
namespace LL
open PySem PySem.Spec PyProof.Rows L2 LamX

/-! ### what stays -/
/-- neither a table nor an object of another kind -/
def Pl : HO → Prop
  | .tbl _ => False
  | .ext _ => False
  | _ => True
theorem Pl.tbl {o : HO} (h : Pl o) (ps : Array Value) : o ≠ .tbl ps := fun z => by subst z; exact h
theorem Pl.code {o : HO} (h : Pl o) (c : Addr) (q : Str) : o ≠ CodeO c q := fun z => by subst z; exact h
/-- all but what stands at S stays; the tables are tables -/
structure Fr (T : List (Addr × Str)) (S : List Addr) (H H' : Hp) : Prop where
  kp : ∀ b o, b ∉ S → (∀ ps, o ≠ .tbl ps) → H b = some o → H' b = some o
  tb : Tabs T H → Tabs T H'
section
variable {T : List (Addr × Str)} {S S' : List Addr} {H H1 H2 : Hp} {a p d : Addr} {o : HO}
theorem Fr.refl : Fr T S H H := ⟨fun _ _ _ _ e => e, id⟩
theorem Fr.same (s : Same H H1) : Fr T S H H1 := ⟨fun b o _ _ e => s b o e, fun t => t.ext s⟩
theorem Fr.trans (x : Fr T S H H1) (y : Fr T S H1 H2) : Fr T S H H2 := ⟨fun b o h n e => y.kp b o h n (x.kp b o h n e), fun t => y.tb (x.tb t)⟩
theorem Fr.mono (x : Fr T S H H1) (h : ∀ b ∈ S, b ∈ S') : Fr T S' H H1 := ⟨fun b o hb n e => x.kp b o (fun z => hb (h b z)) n e, x.tb⟩
/-- what was new on the way may have changed -/
theorem Fr.step (x : Fr T S H H1) (n : H1 d = none) (y : Fr T (d :: S) H1 H2) : Fr T S H H2 := ⟨fun b o hb nt e => by
    have e1 := x.kp b o hb nt e
    refine y.kp b o (fun z => ?_) nt e1
    rcases List.mem_cons.mp z with z | z
    · rw [z, n] at e1; cases e1
    · exact hb z, fun t => y.tb (x.tb t)⟩
theorem Fr.at_ (x : Fr T S H H1) (e : H a = some o) (h : Pl o) (ha : a ∉ S) : H1 a = some o := x.kp a o ha h.tbl e
theorem Fr.same_of (x : Fr T [] H H1) (h : ∀ b o, H b = some o → Pl o) : Same H H1 := fun b o e => x.at_ e (h b o e) (fun z => nomatch z)
/-- a store at p -/
theorem Fr.set (e : H p = some o) (h : Pl o) (hp : p ∈ S) (ne : ∀ b, b ≠ p → H1 b = H b) : Fr T S H H1 := ⟨fun b u hb _ eb => by
    rw [ne b (fun z => hb (z ▸ hp))]; exact eb, fun t q hq => by
    obtain ⟨ps, a1, a2, a3⟩ := t q hq
    have off : ∀ b u, H b = some u → u ≠ o → H1 b = some u := fun b u eb nu => by
      rw [ne b (fun z => by rw [z, e] at eb; exact nu (Option.some.inj eb).symm)]; exact eb
    refine ⟨ps, off _ _ a1 (fun z => h.tbl ps z.symm), a2, fun pos cv hcv => ?_⟩
    obtain ⟨c, e1, e2⟩ := a3 pos cv hcv
    exact ⟨c, e1, off _ _ e2 (fun z => h.code c _ z.symm)⟩⟩
/-- an object that is new: stored, then changed -/
theorem Fr.ext (e : ExtN H H1) (t : Tabs T H1) : Fr T S H H1 := ⟨fun b o _ n eb => e b o eb n, fun _ => t⟩
end

/-! ### tables by names -/
def tabL (K : PySem.W.Frag) (fs : List Str) : List (Addr × Str) := fs.filterMap fun x => (tabOf K (He.ga K x)).map fun q => (q.2, (x ++ ".<locals>.") ++ "<lambda>")
theorem tabL_mem {K : PySem.W.Frag} {fs : List Str} {x : Str} {c P : Addr} (h : x ∈ fs) (e : tabOf K (He.ga K x) = some (c, P)) : (P, (x ++ ".<locals>.") ++ "<lambda>") ∈ tabL K fs := List.mem_filterMap.mpr ⟨x, h, by rw [e]; rfl⟩
theorem tabsIn_mem {K : PySem.W.Frag} {fs : List Str} {x : Str} {c P : Addr} (h : x ∈ fs) (e : tabOf K (He.ga K x) = some (c, P)) : (c, P) ∈ tabsIn K fs := List.mem_filterMap.mpr ⟨x, h, e⟩
theorem tabs_start {K : PySem.W.Frag} {fs : List Str} {H : Hp} (h : ∀ q ∈ tabsIn K fs, H q.2 = some (.tbl #[])) : Tabs (tabL K fs) H := fun q hq => by
  obtain ⟨x, hx, e⟩ := List.mem_filterMap.mp hq
  cases t : tabOf K (He.ga K x) with
  | none => rw [t] at e; cases e
  | some r =>
    obtain ⟨c, P⟩ := r
    rw [t] at e
    cases e
    exact TabS.nil (h _ (tabsIn_mem hx t))
theorem tabs_ok {K : PySem.W.Frag} {h : Heap} {fs : List Str} (t : TabsOk K h fs) : ∀ q ∈ tabsIn K fs, h.get? q.2 = some { cls := .none, data := .fields #[] } ∧ K.lookup q.2 = none ∧ PySem.W.CodeHd h q.1 q.2 := fun q hq => by
  obtain ⟨x, hx, e⟩ := List.mem_filterMap.mp hq
  obtain ⟨c, P, a1, a2, a3, a4⟩ := t.ex x hx
  rw [a1] at e
  cases e
  exact ⟨a3, a4, a2⟩
/-- each table has one name -/
def tabU (K : PySem.W.Frag) (fs : List Str) : Bool := (tabL K fs).all fun p => (tabL K fs).all fun q => !decide (p.1 = q.1) || decide (p.2 = q.2)
theorem tabU_ok {K : PySem.W.Frag} {fs : List Str} (h : tabU K fs = true) {p q : Addr × Str} (hp : p ∈ tabL K fs) (hq : q ∈ tabL K fs) (e : p.1 = q.1) : p.2 = q.2 := by
  have z := List.all_eq_true.mp (List.all_eq_true.mp h p hp) q hq
  rw [decide_eq_true e] at z
  exact of_decide_eq_true z
theorem codeOf_tab {K : PySem.W.Frag} {f c P : Addr} (e : tabOf K f = some (c, P)) : codeOf K f = some c := by
  unfold tabOf at e
  split at e
  · rename_i c' hc
    rw [hc]
    repeat' split at e
    all_goals first | (cases e; rfl) | cases e
  · cases e

/-! ### x(lambda: body) -/
theorem pg_lamK {X : Cx} {K' : PySem.W.Frag} {mg' : Str → Option Value} {base' : Heap} {qn : Str} {fs : List Str} {TT : (XK → Hp → VK → Prop) → Hp → VK → Prop} {x a : Str} {g c P : Addr} {k : Nat} {fd : FuncData} {pg : Arguments} {bg : List Stmt} {sg : Scope} {Ng : List Str}
    {params : Arguments} {body : Expr} {scope : Scope} {t : XK → TE} {p lpos pos : Pos} (F : FunD K' x x pg bg sg [] [] g fd) (hb : L2.Binds K' fd [a] []) (hg : Gl X x) (hm : mg' x = some (.ref g)) (Sg : FnScope Ng [a] sg) (hNg : Ng[0]? = some a) (hva : Vis sg a)
    (hG : ∀ cdv, GivesTo X Ng x sg g cdv bg a ((qn ++ ".<locals>.") ++ "<lambda>") TT)
    (e : tabOf K' (He.ga K' qn) = some (c, P)) (hx : qn ∈ fs) (TB : ∀ q ∈ tabsIn K' fs, TabB base' mg' q.1 q.2) (U : tabU K' fs = true) (hcode : ∀ c, codeOf K' (He.ga K' qn) = some c → X.env.code = .ref c) (hr : Room (k + 2) X.A) (L : LamS X.env.scope scope) (hdef : defaultsOf params X.env = ([], []))
    (hbind : ∀ (q : Str) (cl : List (Str × Addr)) (pm cv ctv : Value), bindArgs (PySem.W.kla_fn "<lambda>" q params body scope cl pm cv ctv) ⟨[], []⟩ = pure [])
    (hbody : ∀ (A : Around) (outer : List Env) (s : Shared) (H : Hp) (E : XK) (f c' : Addr), Room k (A.deeper (lamEnv X scope s.heap.objs.size f c')) → PE (lamCx X A outer s H E scope f c') body (t E))
    (hK : X.K = K' := by rfl) (hM : X.mg = mg' := by rfl) (hB : X.base = base' := by rfl) (hq : X.env.qual = qn ++ ".<locals>." := by rfl)
    (hdb : (x == ("__debug__" : Str)) = false := by decide) (hd : (a == ("__debug__" : Str)) = false := by decide) (hcd : (a == ("__classdict__" : Str)) = false := by decide) :
    PE X (.Call (.Name x p) [.Lambda params body scope lpos] [] pos) (tLam (tabL K' fs) TT t) := by
  subst hK hM hB
  obtain ⟨oc, od, dV, kV, doc, pm, an, cdv, ct, osl, efd, lk, hcg, _⟩ := F.ex
  subst efd
  have hG' : GivesTo X Ng x sg g cdv bg a (X.env.qual ++ "<lambda>") TT := by rw [hq]; exact hG cdv
  have mem : (P, X.env.qual ++ "<lambda>") ∈ tabL X.K fs := by rw [hq]; exact tabL_mem hx e
  exact pe_lamcall hg hm F.kp lk hcg hb Sg hNg hva hG' (TB _ (tabsIn_mem hx e)) (hcode c (codeOf_tab e)) mem (fun q hq ep => tabU_ok U hq mem ep) hr L hdef hbind hbody hdb hd hcd
/-- reading of such a call -/
theorem r_lam {T : List (Addr × Str)} {TT : (XK → Hp → VK → Prop) → Hp → VK → Prop} {t : XK → TE} {σ : L2.St} {H : Hp} {Q : VK} (h : Tabs T H) (q : ∀ H1, Fr T [] H H1 → Tabs T H1 → TT (fun E H' Q' => t E σ H' Q') H1 Q) : tLam T TT t σ H Q := ⟨h, fun H1 e t1 => q H1 (.ext e t1) t1⟩
end LL
/-! LX6: methods without arguments; == with a value of another kind; what a suite asks. -/
namespace LL
open PySem PySem.Spec PyProof.Rows L2 LamX

section
variable {X : Cx} {CX : CXT} {g : Bool} {k : Nat} {f C : Addr} {fd : FuncData} {ps : List Str} {sp : Sp} {dvs : List V} {ds : List Value} {E : XK} {m : Str} {pos apos : Pos} {o : Expr} {ta : TE}
/-- o.m() -/
theorem pg_meth0 {pl : Sem Bool} (he : PE X o ta) (c : Cls X.K C) (hm : Meth X.K C m f) (F : FnG X.prog X.w X.K X.mg X.base CX g k f fd ps sp) (hr : Room k X.A) (hg : Clr g X.A) (hb : Binds X.K fd ps ds) (hd : Vals dvs ds)
    (hx : Passes CX X E)
    (ht : eval (.Call (.Attribute o m apos) [] [] pos) X.env = (do let ov ← eval o X.env; standAt apos.atName; let (f, first) ← holding [ov] (getMethod ov m pl); callWith pos f first (backTo pos (starEach [] X.env)) (backToKw pos (keywordEach [] X.env))) := by rfl) :
    PE X (.Call (.Attribute o m apos) [] [] pos) (tMeth C m sp dvs E ta tNil) := by
  constructor
  intro pins s σ H Q I h
  refine PySem.W.methodCall_KW (pl := pl) (thn (he.run pins s σ H _ I h) ?_) ht
  rintro u s1 ⟨y, H1, I1, ry, a, dx, fs, ey, ea, l, q⟩
  subst ey
  obtain rfl : u = Value.ref a := ry
  refine getmeth_ok I1 ea c hm l (PySem.W.callWith_K0 I1.kIn hm.kp (run_gX (us := [.ref a]) (vs := [.ref a]) F hr hg hb hd hx I1 (.cons rfl .nil) q))
end
/-- x == y by the own __eq__, y of a built-in type -/
def rEqX (K : PySem.W.Frag) (C : Addr) (Ts : List String) (sp : Sp) (E : XK) : R2 := fun x y H Q => ∃ a, x = .ref a ∧ InsAt C H a ∧ (∃ T, TyX K H y (.type T) ∧ T ∈ Ts) ∧ sp [x, y] H Q E
section
variable {X : Cx} {CX : CXT} {g : Bool} {k : Nat} {f C : Addr} {fd : FuncData} {ps : List Str} {sp : Sp} {E : XK} {Ts : List String}
theorem op_eqX (O : EqOwn X.K C f Ts) (F : FnG X.prog X.w X.K X.mg X.base CX g k f fd ps sp) (hr : Room k X.A) (hg : Clr g X.A) (hb : Binds X.K fd ps []) (hx : Passes CX X E) : OpR X (compareOp .Eq) (rEqX X.K C Ts sp E) := by
  intro pins s σ H x y v u Q I rx ry h
  obtain ⟨a, rfl, ⟨dx, fs, ea⟩, ⟨T, ty, hm⟩, q⟩ := h
  obtain rfl : v = Value.ref a := rx
  obtain ⟨ox, od, J⟩ := inst_of I ea
  obtain ⟨m, Fr0⟩ := I.fr
  have body : wpAny (model X.prog X.w) X.A (call (.ref f) [.ref a, u]) (PySem.W.CmpBack (EP X pins σ Q)) X.xe s :=
    wpAny_mono (run_gX (us := [.ref a, u]) (vs := [.ref a, y]) (dvs := []) F hr hg hb .nil hx I (.cons rfl (.cons ry .nil)) q) (fun w s' z => by
      obtain ⟨z1, H', I', r', q'⟩ := z
      exact not_ni r' ⟨z1, H', I', r', q'⟩) fun _ _ z => z
  obtain ⟨P0, Z, p, _⟩ := kit_of I ry ty
  show wpAny (model X.prog X.w) X.A (richCompare .Eq (.ref a) u) (EP X pins σ Q) X.xe s
  exact PySem.W.cmp_K hr.units0 Fr0 I.ok.mod.kin J (Z.ty _ _ I.kIn p) (O.ts T hm) O.at_ O.fn body
end
/-- isinstance(e, c) of the caught error, its class D -/
def rIsED (K : PySem.W.Frag) (a : Addr) (cls : Value) (d : Option Addr) (D : Addr) : List V → Hp → VK → Prop := fun xs H Q => cls = .ref D ∧ ∃ (dd : Addr) (c : V) (cv : Value) (b : Bool) (fs : List (Str × V)), d = some dd ∧ xs = [.ref a, c] ∧ H dd = some (.xd fs) ∧ ClsV c cv ∧ PySem.W.kitOne K (.ref D) cv = some b ∧ Q (.bl b) H
theorem call_isEg {X : Cx} {a D : Addr} {oe : Obj} {cls : Value} {d : Option Addr} {pn : List (Addr × Obj)} (T : ExcC X.K D) (hz : Zc cls d oe) (hf : ∃ vs, oe.data = .fields vs) :
    CallR (X.suite a ((a, oe) :: pn)) (.builtin "isinstance") (rIsED X.K a cls d D) := by
  intro pins s σ H xs us Q I r h
  obtain ⟨rfl, dd, c, cv, b, fs, rfl, rfl, ed, hc, e, q⟩ := h
  exact call_isED T hz hf pins s σ H _ us Q I r ⟨c, cv, b, fs, rfl, ed, fun u ru => hc.eq ru, e, q⟩
/-- a wish that depends on what the body's call may let out -/
theorem pss_ex {X : Cx} {body : List Stmt} {W : WX} {tb : XK → TS} (h : ∀ Ech : XK, (∀ (cls : Value) (d : Option Addr) (σ' : L2.St) (H' : Hp), Ech cls d H' → W cls d σ' H') → PSs X body (tb Ech)) :
    PSs X body (fun D σ H => ∃ Ech : XK, (∀ (cls : Value) (d : Option Addr) (σ' : L2.St) (H' : Hp), Ech cls d H' → W cls d σ' H') ∧ tb Ech D σ H) := by
  constructor
  intro pins s σ H D I q
  obtain ⟨Ech, hW, q⟩ := q
  exact (h Ech hW).run pins s σ H D I q
/-- there are as many slots as names -/
theorem pss_len {X : Cx} {sts : List Stmt} {t : TS} {n : Nat} (e : X.N.length = n) (h : PSs X sts t) : PSs X sts (fun D σ H => σ.length = n → t D σ H) := by
  constructor
  intro pins s σ H D I q
  exact h.run pins s σ H D I (q (I.len.trans e))
theorem three {α : Type} {l : List α} (h : l.length = 3) : ∃ a b c, l = [a, b, c] := by
  match l, h with
  | [a, b, c], _ => exact ⟨a, b, c, rfl⟩
/-! readings -/
section
variable {K : PySem.W.Frag} {a C dd : Addr} {cls : Value} {d : Option Addr} {f : Str} {te : TE} {σ : L2.St} {H : Hp} {Q : VK} {v : V} {z : Str}
theorem r_xf (q : te σ H fun x H1 => x = .ref a ∧ cls = .ref C ∧ ∃ (dd : Addr) (fs : List (Str × V)) (v : V), d = some dd ∧ H1 dd = some (.xd fs) ∧ fs.lookup f = some v ∧ Q v H1) : tXf a cls d C f te σ H Q := q
theorem r_xfAt (h : H dd = some (.xd [(f, v)])) (q : Q v H) : V.ref a = .ref a ∧ Value.ref C = .ref C ∧ ∃ (dd' : Addr) (fs : List (Str × V)) (v : V), some dd = some dd' ∧ H dd' = some (.xd fs) ∧ fs.lookup f = some v ∧ Q v H := ⟨rfl, rfl, dd, _, v, rfl, h, by simp [List.lookup], q⟩
theorem TyX.same {K : PySem.W.Frag} {H H' : Hp} {v : V} {t : Value} (h : TyX K H v t) (s : Same H H') : TyX K H' v t := by
  cases h with
  | base b =>
    refine .base ?_
    cases b with
    | non => exact .non
    | bl y => exact .bl y
    | int i => exact .int i
    | str y => exact .str y
    | flt y => exact .flt y
    | lst e => exact .lst (s _ _ e)
    | frz e => exact .frz (s _ _ e)
    | tup e => exact .tup (s _ _ e)
    | dK e => exact .dK (s _ _ e)
    | dT e => exact .dT (s _ _ e)
    | ins e cl ha hn htk hm => exact .ins (s _ _ e) cl ha hn htk hm
  | byt b => exact .byt b
  | set e => exact .set (s _ _ e)
  | kList e c => exact .kList e c
  | kTuple e c => exact .kTuple e c
  | kDict e c => exact .kDict e c
  | fTuple e => exact .fTuple (s _ _ e)
  | fDict e => exact .fDict (s _ _ e)
theorem r_sl {r : V → Option Int → Option Int → Hp → VK → Prop} {tl th : TO} (q : te σ H fun x H1 => tl σ H1 fun l H2 => th σ H2 fun u H3 => r x l u H3 Q) : L2.tSl r te tl th σ H Q := q
theorem r_noPart {QO : Option Int → Hp → Prop} (q : QO none H) : tNoPart σ H QO := q
theorem r_part {QO : Option Int → Hp → Prop} (q : te σ H fun x H1 => ∃ i, x = .int i ∧ QO (some i) H1) : tPart te σ H QO := q
theorem r_partI {A : Int → Prop} {i : Int} (q : A i) : ∃ j, V.int i = .int j ∧ A j := ⟨i, rfl, q⟩
theorem r_cutS {lo hi : Option Int} (h : z.length ≤ 100000) (q : Q (.str (cutS z lo hi)) H) : rSlS (.str z) lo hi H Q := ⟨z, rfl, Nat.le_trans h (by decide), q⟩
theorem r_chain {r r' : R2} {ta tb tc : TE} (q : ta σ H fun x H1 => tb σ H1 fun y H2 => r x y H2 fun z H3 => ∃ k, z = .bl k ∧ (if k = true then tc σ H3 fun w' H4 => r' y w' H4 Q else Q (.bl false) H3)) : tChain r r' ta tb tc σ H Q := q
theorem r_lenS (h : z.length ≤ 100000) (q : Q (.int z.length) H) : (fun xs H Q => ∃ x n, xs = [x] ∧ LenV K x H n ∧ Q (V.int n) H) [.str z] H Q := ⟨_, _, rfl, ⟨Nat.le_trans h (by decide), rfl⟩, q⟩
theorem q_lenS {A : V → Nat → Prop} (h : z.length ≤ 100000) (q : A (.str z) z.length) : ∃ x n, [V.str z] = [x] ∧ LenV K x H n ∧ A x n := ⟨_, _, rfl, ⟨Nat.le_trans h (by decide), rfl⟩, q⟩
theorem q_lenL {A : V → Nat → Prop} {p : Addr} {xs : List V} (h : SqL K H p xs) (q : A (.ref p) xs.length) : ∃ x n, [V.ref p] = [x] ∧ LenV K x H n ∧ A x n := ⟨_, _, rfl, .inl ⟨xs, h, rfl⟩, q⟩
theorem r_ixS {m : Int} {c : Nat} (h : z.length ≤ 100000) (e : atI z.cps.toList m = some c) (q : Q (.str ⟨#[c]⟩) H) : rIxS (.str z) (.int m) H Q := ⟨z, m, c, rfl, rfl, Nat.le_trans h (by decide), e, q⟩
theorem r_repr (h : RpV K H v z) (q : Q (.str z) H) : rRpV K [v] H Q := ⟨v, z, rfl, h, q⟩
end
end LL
/-! LX7: texts: cut, joined. -/
namespace LL
open PySem PySem.Spec PyProof.Rows L2 TL

theorem len_tl (z : Str) : z.length = (tl z).length := by
  show z.cps.size = z.cps.toList.length
  simp
theorem tl_inj {x y : Str} (h : tl x = tl y) : x = y := by
  cases x with
  | mk a => cases y with
    | mk b =>
      have e : a.toList = b.toList := h
      rw [show a = b from Array.toList_inj.mp e]
theorem tl_app (x y : Str) : tl (x ++ y) = tl x ++ tl y := Array.toList_append
theorem tl_to (z : Str) {m : Nat} (h : m ≤ z.length) : tl (cutS z none (some (m : Int))) = (tl z).take m := by
  unfold cutS
  rw [HT.sIx_nat, HT.sIx_none, Nat.sub_zero, List.drop_zero, Nat.min_eq_left h]
theorem tl_from (z : Str) (m : Nat) : tl (cutS z (some (m : Int)) none) = (tl z).drop m := by
  unfold cutS
  rw [HT.sIx_nat, HT.sIx_none, List.toList_toArray]
  rw [List.take_of_length_le (by simp only [List.length_drop]; rw [← len_tl]; omega)]
  by_cases h : m ≤ z.length
  · rw [Nat.min_eq_left h]
  · rw [Nat.min_eq_right (by omega), len_tl, List.drop_length, List.drop_of_length_le (by rw [← len_tl]; omega)]
theorem len_to (z : Str) {m : Int} (h0 : 0 ≤ m) (h : m ≤ z.length) : ((cutS z none (some m)).length : Int) = m := by
  obtain ⟨k, rfl⟩ := Int.eq_ofNat_of_zero_le h0
  have hk : k ≤ z.length := by omega
  rw [len_tl, tl_to z hk, List.length_take, ← len_tl, Nat.min_eq_left hk]
theorem ok8_tl {x : Str} : Ok8 x ↔ ∀ c ∈ tl x, c < 16 ^ 8 := Iff.rfl
theorem ok8_to {z : Str} (h : Ok8 z) {m : Int} (h0 : 0 ≤ m) (hm : m ≤ z.length) : Ok8 (cutS z none (some m)) := by
  obtain ⟨k, rfl⟩ := Int.eq_ofNat_of_zero_le h0
  intro c hc
  have hc : c ∈ tl (cutS z none (some (k : Int))) := hc
  rw [tl_to z (by omega)] at hc
  exact h c (List.mem_of_mem_take hc)
theorem tl_join0 {y : Str} (hy : tl y = []) (ys : List Str) : tl (Txt.join y ys) = (ys.map tl).flatten := by
  rw [join_eq, tl_join, hy]
  induction ys with
  | nil => rfl
  | cons a r ih =>
    cases r with
    | nil => simp [joinL]
    | cons b r =>
      show tl a ++ ([] ++ joinL [] ((b :: r).map tl)) = _
      rw [List.nil_append, ih]
      rfl
theorem len_join0 {y : Str} (hy : tl y = []) (ys : List Str) : (Txt.join y ys).length = (ys.map (·.length)).sum := by
  rw [len_tl, tl_join0 hy, List.length_flatten, List.map_map]
  congr 1
theorem ok8_join0 {y : Str} (hy : tl y = []) {ys : List Str} (h : ∀ x ∈ ys, Ok8 x) : Ok8 (Txt.join y ys) := by
  intro c hc
  have hc : c ∈ tl (Txt.join y ys) := hc
  rw [tl_join0 hy] at hc
  obtain ⟨l, hl, hm⟩ := List.mem_flatten.mp hc
  obtain ⟨x, hx, rfl⟩ := List.mem_map.mp hl
  exact h x hx c hm
theorem tl_nil : tl (Str.ofString "") = [] := by decide +kernel
/-- single signs -/
def One (z : Str) : Prop := z.length = 1
theorem sum_one {ys : List Str} (h : ∀ x ∈ ys, One x) : (ys.map (·.length)).sum = ys.length := by
  induction ys with
  | nil => rfl
  | cons a r ih =>
    rw [List.map_cons, List.sum_cons, ih fun x hx => h x (List.mem_cons_of_mem _ hx), h a (List.mem_cons_self ..), List.length_cons]
    omega
theorem r_join {K : PySem.W.Frag} {H : Hp} {Q : VK} {a : Str} {p : Addr} {ys : List Str} (h : SqL K H p (ys.map V.str)) (hz : (ys.map (·.length)).sum + ys.length * a.length ≤ 16777216) (q : Q (.str (Txt.join a ys)) H) :
    (fun x xs H Q => ∃ a p, ∃ ys : List Str, x = V.str a ∧ xs = [V.ref p] ∧ (SqL K H p (ys.map V.str) ∨ SqT K H p (ys.map V.str)) ∧ (ys.map (·.length)).sum + ys.length * a.length ≤ 16777216 ∧ Q (V.str (Txt.join a ys)) H) (.str a) [.ref p] H Q := ⟨a, p, ys, rfl, rfl, .inl h, hz, q⟩
end LL
/-! LX8: how long what repr shows is. -/
namespace LL
open PySem PySem.Spec PyProof.Rows L2 TL

mutual
/-- a bound of the text -/
def szD : PyData → Nat
  | .none => 4
  | .bool _ => 5
  | .int _ => 1921
  | .str x => 10 * x.length + 2
  | .list xs => szAll xs + 4
  | .tuple xs => szAll xs + 4
  | .dict _ => 0
def szAll : List PyData → Nat
  | [] => 0
  | x :: xs => szD x + 2 + szAll xs
end
mutual
/-- no dict, strings of signs, ints that may be shown -/
def shwB : PyData → Prop
  | .none => True
  | .bool _ => True
  | .int i => i.natAbs.log2 < 1920
  | .str x => Ok8 x
  | .list xs => shwAll xs
  | .tuple xs => shwAll xs
  | .dict _ => False
def shwAll : List PyData → Prop
  | [] => True
  | x :: xs => shwB x ∧ shwAll xs
end
theorem piled_tuple (ts : List Str) : (tupleText ts).length ≤ piled ts + 4 := by
  unfold tupleText
  rw [strLen_append, strLen_append]
  have e1 : ((("(" : String) : Str)).length = 1 := rfl
  have e3 : (((if ts.length == 1 then ",)" else ")" : String) : Str)).length ≤ 2 := by split <;> decide
  rw [e1]
  cases ts with
  | nil => show 1 + (Str.join ", " []).length + _ ≤ _; have : (Str.join ", " []).length = 0 := rfl; rw [this]; omega
  | cons a r =>
    have := join_length_add (a :: r) (by simp)
    omega
theorem piled_list (ts : List Str) : (listText ts).length ≤ piled ts + 4 := by
  cases ts with
  | nil => rw [listText_nil]; decide
  | cons a r =>
    have e : listText (a :: r) = textFrom 1 (("[" : Str) ++ (if (0 : Nat) > 0 then ", " else "" : String) ++ a) r ++ "]" := rfl
    rw [e, strLen_append, textFrom_length_pos _ _ _ (by decide), strLen_append, strLen_append, piled_cons]
    have e1 : ((("[" : String) : Str)).length = 1 := rfl
    have e2 : ((("]" : String) : Str)).length = 1 := rfl
    have e3 : (((if (0 : Nat) > 0 then ", " else "" : String) : Str)).length = 0 := by decide
    rw [e1, e2, e3]
    omega
mutual
theorem shown_sz : ∀ d : PyData, shwB d → d.shown.length ≤ szD d
  | .none, _ => by simp only [PyData.shown, szD]; decide
  | .bool b, _ => by simp only [PyData.shown, szD]; cases b <;> decide
  | .int i, h => by
    simp only [shwB] at h
    simp only [PyData.shown, szD]
    have := int_text_len_1921 h
    omega
  | .str x, h => by
    simp only [shwB] at h
    simp only [PyData.shown, szD]
    exact h.len
  | .list xs, h => by
    simp only [shwB] at h
    simp only [PyData.shown, szD]
    have := shown_szAll xs h
    have := piled_list (PyData.shownAll xs)
    omega
  | .tuple xs, h => by
    simp only [shwB] at h
    simp only [PyData.shown, szD]
    have := shown_szAll xs h
    have := piled_tuple (PyData.shownAll xs)
    omega
  | .dict _, h => by simp only [shwB] at h
theorem shown_szAll : ∀ xs : List PyData, shwAll xs → piled (PyData.shownAll xs) ≤ szAll xs
  | [], _ => by simp only [PyData.shownAll, szAll]; exact Nat.le_refl _
  | x :: xs, h => by
    simp only [shwAll] at h
    simp only [PyData.shownAll, szAll, piled_cons]
    have := shown_sz x h.1
    have := shown_szAll xs h.2
    omega
end
mutual
theorem showable_of : ∀ d : PyData, shwB d → d.showable = true
  | .none, _ => by simp only [PyData.showable]
  | .bool b, _ => by simp only [PyData.showable]
  | .int i, h => by simp only [shwB] at h; simp only [PyData.showable, decide_eq_true h]
  | .str x, _ => by simp only [PyData.showable]
  | .list xs, h => by simp only [shwB] at h; simp only [PyData.showable]; exact showableAll_of xs h
  | .tuple xs, h => by simp only [shwB] at h; simp only [PyData.showable]; exact showableAll_of xs h
  | .dict _, h => by simp only [shwB] at h
theorem showableAll_of : ∀ xs : List PyData, shwAll xs → PyData.showableAll xs = true
  | [], _ => by simp only [PyData.showableAll]
  | x :: xs, h => by
    simp only [shwAll] at h
    simp only [PyData.showableAll, showable_of x h.1, showableAll_of xs h.2, Bool.and_self]
end
mutual
theorem noDict_of : ∀ d : PyData, shwB d → d.hasDict = false
  | .none, _ => by simp only [PyData.hasDict]
  | .bool b, _ => by simp only [PyData.hasDict]
  | .int i, _ => by simp only [PyData.hasDict]
  | .str x, _ => by simp only [PyData.hasDict]
  | .list xs, h => by simp only [shwB] at h; simp only [PyData.hasDict]; exact noDictAll_of xs h
  | .tuple xs, h => by simp only [shwB] at h; simp only [PyData.hasDict]; exact noDictAll_of xs h
  | .dict _, h => by simp only [shwB] at h
theorem noDictAll_of : ∀ xs : List PyData, shwAll xs → PyData.hasDictAll xs = false
  | [], _ => by simp only [PyData.hasDictAll]
  | x :: xs, h => by
    simp only [shwAll] at h
    simp only [PyData.hasDictAll, noDict_of x h.1, noDictAll_of xs h.2, Bool.or_self]
end
/-- repr of data -/
theorem rpv {K : PySem.W.Frag} {H : Hp} {v : V} {d : PyData} (h : Dp K H v d) (s : shwB d) (h1 : d.depth ≤ 16) (h2 : szD d ≤ 100000) : RpV K H v d.shown :=
  .inl ⟨d, h, showable_of d s, noDict_of d s, h1, rfl, Nat.le_trans (shown_sz d s) (Nat.le_trans h2 (by decide))⟩
theorem shown_le {d : PyData} (s : shwB d) (h : szD d ≤ 100000) : d.shown.length ≤ sizeLine := Nat.le_trans (shown_sz d s) (Nat.le_trans h (by decide))
theorem rpv0 {K : PySem.W.Frag} {H : Hp} {a : Addr} (h : H a = some (.dK [])) : RpV K H (.ref a) (PyData.shown (.dict [])) := .inr ⟨a, rfl, h, rfl⟩
mutual
theorem Dp.same {K : PySem.W.Frag} {H H' : Hp} (s : Same H H') : ∀ (d : PyData) (v : V), Dp K H v d → Dp K H' v d
  | .none, _, h => by cases h; exact .non
  | .bool b, _, h => by cases h; exact .bl b
  | .int i, _, h => by cases h; exact .int i
  | .str x, _, h => by cases h; exact .str x
  | .list xs, _, h => by
    cases h with
    | lst h1 h2 => exact .lst (s.seq h1) (DpAll.same s xs _ h2)
  | .tuple xs, _, h => by
    cases h with
    | tup h1 h2 =>
      refine .tup ?_ (DpAll.same s xs _ h2)
      rcases h1 with (h1 | ⟨o, h1⟩) | h1
      · exact .inl (.inl (s _ _ h1))
      · exact .inl (.inr ⟨o, s _ _ h1⟩)
      · exact .inr h1
  | .dict _, _, h => by cases h
theorem DpAll.same {K : PySem.W.Frag} {H H' : Hp} (s : Same H H') : ∀ (ds : List PyData) (vs : List V), DpAll K H vs ds → DpAll K H' vs ds
  | [], _, h => by cases h; exact .nil
  | d :: ds, _, h => by
    cases h with
    | cons h1 h2 => exact .cons (Dp.same s d _ h1) (DpAll.same s ds _ h2)
end
theorem RpV.same {K : PySem.W.Frag} {H H' : Hp} {v : V} {z : Str} (h : RpV K H v z) (s : Same H H') : RpV K H' v z := by
  rcases h with ⟨d, hd, r⟩ | ⟨a, rfl, e, r⟩
  · exact .inl ⟨d, Dp.same s d v hd, r⟩
  · exact .inr ⟨a, rfl, s _ _ e, r⟩
theorem wCls_yes {K : PySem.W.Frag} {Wo : WX} {D : Ends} {q : Cl} {r : List Cl} {cls : Value} {d : Option Addr} {σ : L2.St} {H : Hp} (e : PySem.W.exmOne K cls q.c = some true) (h : ∀ a, H a = none → q.ts a cls d (endsOff q.i D) (σ.set q.i (some (.ref a))) H) : wCls K Wo D (q :: r) cls d σ H := ⟨true, e, fun _ => h, fun z => absurd z (by decide)⟩
theorem wCls_no {K : PySem.W.Frag} {Wo : WX} {D : Ends} {q : Cl} {r : List Cl} {cls : Value} {d : Option Addr} {σ : L2.St} {H : Hp} (e : PySem.W.exmOne K cls q.c = some false) (h : wCls K Wo D r cls d σ H) : wCls K Wo D (q :: r) cls d σ H := ⟨false, e, fun z => absurd z (by decide), fun _ => h⟩
theorem lk1 (f : Str) (v : V) : [(f, v)].lookup f = some v := by simp [List.lookup]
theorem upd_of {H H' : Hp} {p : Addr} {o : HO} (e : H' p = some o) (ne : ∀ b, b ≠ p → H' b = H b) : H' = upd H p o := by
  funext b
  by_cases h : b = p
  · subst h; rw [e, upd_same]
  · rw [ne b h, upd_ne h]
theorem same_upd {H : Hp} {p : Addr} {o : HO} (h : H p = none) : Same H (upd H p o) := fun b u e => by rw [upd_ne (ne_of_none e h)]; exact e
/-! == and != of data that are alike -/
theorem r_eqDs {K : PySem.W.Frag} {H : Hp} {Q : VK} {x y : V} {d : PyData} (hx : Dp K H x d) (hy : Dp K H y d) (h : SeqAt.shaped d = true) (q : Q (.bl true) H) : rEqD K x y H Q :=
  ⟨d, d, hx, hy, h, h, by rw [SeqAt.eqv_refl d (SeqAt.canLay_of_shaped h)]; exact q⟩
theorem r_neDs {K : PySem.W.Frag} {H : Hp} {Q : VK} {x y : V} {d : PyData} (hx : Dp K H x d) (hy : Dp K H y d) (h : SeqAt.shaped d = true) (q : Q (.bl false) H) : rNeD K x y H Q :=
  ⟨d, d, hx, hy, h, h, by rw [SeqAt.eqv_refl d (SeqAt.canLay_of_shaped h)]; exact q⟩
theorem dp_told {K : PySem.W.Frag} {H : Hp} {t : Addr} {w z : Str} {b : Bool} (h : H t = some (.tup [.str w, .str z, .bl b])) : Dp K H (.ref t) (.tuple [.str w, .str z, .bool b]) :=
  .tup (.inl (.inl h)) (.cons (.str w) (.cons (.str z) (.cons (.bl b) .nil)))
theorem r_dnew {σ : L2.St} {H : Hp} {Q : VK} (q : ∀ p H', H p = none → Same H H' → H' p = some (.dK []) → (∀ b, b ≠ p → H' b = H b) → Q (.ref p) H') : tDNewK σ H Q := fun p hp => q p _ hp (same_upd hp) upd_same fun b hb => upd_ne hb
end LL
/-! LX9: texts of signs below 128; what repr shows of them. -/
namespace LL
open PySem PySem.Spec PyProof.Rows L2 TL PySem.Builtin PySem.Builtin.Str

def Asc (x : Str) : Prop := ∀ c ∈ tl x, c < 128
theorem Asc.ok8 {x : Str} (h : Asc x) : Ok8 x := fun c hc => Nat.lt_trans (h c hc) (by decide)
theorem Asc.strOk {x : Str} (h : Asc x) : PyData.strOk x = true := by
  unfold PyData.strOk
  rw [← Array.all_toList]
  exact List.all_eq_true.mpr fun c hc => decide_eq_true (Nat.lt_trans (h c hc) (by decide))
theorem Asc.app {x y : Str} (hx : Asc x) (hy : Asc y) : Asc (x ++ y) := fun c hc => by
  rw [tl_app] at hc
  exact (List.mem_append.mp hc).elim (hx c) (hy c)
def ascB (x : Str) : Bool := (tl x).all (· < 128)
theorem asc_by {x : Str} (h : ascB x = true) : Asc x := fun c hc => of_decide_eq_true (List.all_eq_true.mp h c hc)
theorem asc_one {c : Nat} (h : c < 128) : Asc ⟨#[c]⟩ := fun d hd => by
  have hd : d ∈ [c] := hd
  rw [List.mem_singleton.mp hd]; exact h
theorem asc_to {z : Str} (h : Asc z) {m : Int} (h0 : 0 ≤ m) (hm : m ≤ z.length) : Asc (cutS z none (some m)) := by
  obtain ⟨k, rfl⟩ := Int.eq_ofNat_of_zero_le h0
  intro c hc
  rw [tl_to z (by omega)] at hc
  exact h c (List.mem_of_mem_take hc)
theorem asc_from {z : Str} (h : Asc z) (k : Nat) : Asc (cutS z (some (k : Int)) none) := by
  intro c hc
  rw [tl_from] at hc
  exact h c (List.mem_of_mem_drop hc)
theorem asc_join0 {y : Str} (hy : tl y = []) {ys : List Str} (h : ∀ x ∈ ys, Asc x) : Asc (Txt.join y ys) := by
  intro c hc
  rw [tl_join0 hy] at hc
  obtain ⟨l, hl, hm⟩ := List.mem_flatten.mp hc
  obtain ⟨x, hx, rfl⟩ := List.mem_map.mp hl
  exact h x hx c hm
theorem asc_nat (n : Nat) : Asc (Str.ofString (toString (n : Int))) := fun c hc => by
  rw [tl_num] at hc
  have := numL_digits n c hc
  omega
theorem asc_int (i : Int) : Asc (Str.ofString (toString i)) := by
  cases i with
  | ofNat n => exact asc_nat n
  | negSucc n =>
    have e : toString (Int.negSucc n) = "-" ++ toString ((n + 1 : Nat) : Int) := by rfl
    have ea : Str.ofString ("-" ++ toString ((n + 1 : Nat) : Int)) = Str.ofString "-" ++ Str.ofString (toString ((n + 1 : Nat) : Int)) := tl_inj (by
      rw [tl_app]
      show (Str.ofString _).cps.toList = (Str.ofString _).cps.toList ++ (Str.ofString _).cps.toList
      rw [signs_ofString, signs_ofString, signs_ofString, String.toList_append, List.map_append])
    rw [e, ea]
    exact Asc.app (asc_by (by decide +kernel)) (asc_nat _)
/-! repr of a text -/
def chB (q c : Nat) : Bool := (reprChar q c).all (· < 128)
theorem ch_all : ∀ c : Nat, c < 128 → chB 39 c = true ∧ chB 34 c = true := by
  have h : (List.range 128).all (fun c => chB 39 c && chB 34 c) = true := by decide +kernel
  intro c hc
  have := List.all_eq_true.mp h c (List.mem_range.mpr hc)
  exact Bool.and_eq_true_iff.mp this
theorem quote_cases (x : Str) : reprQuote x = 39 ∨ reprQuote x = 34 := by
  unfold reprQuote
  split
  · exact .inr rfl
  · exact .inl rfl
theorem fold_asc (q : Nat) (hq : q = 39 ∨ q = 34) : ∀ (l : List Nat) (acc : Array Nat), (∀ c ∈ l, c < 128) → (∀ c ∈ acc.toList, c < 128) → ∀ c ∈ (l.foldl (fun out c => out ++ (reprChar q c).toArray) acc).toList, c < 128
  | [], acc, _, h => h
  | a :: r, acc, hl, h => by
    refine fold_asc q hq r _ (fun c hc => hl c (List.mem_cons_of_mem _ hc)) (fun c hc => ?_)
    rw [Array.toList_append] at hc
    rcases List.mem_append.mp hc with hc | hc
    · exact h c hc
    · obtain ⟨h1, h2⟩ := ch_all a (hl a (List.mem_cons_self ..))
      rcases hq with rfl | rfl
      · exact of_decide_eq_true (List.all_eq_true.mp h1 c hc)
      · exact of_decide_eq_true (List.all_eq_true.mp h2 c hc)
theorem asc_repr {x : Str} (h : Asc x) : Asc (reprText x) := by
  intro c hc
  have e : tl (reprText x) = ((x.cps.foldl (fun out c => out ++ (reprChar (reprQuote x) c).toArray) #[reprQuote x]).push (reprQuote x)).toList := rfl
  rw [e, Array.toList_push, ← Array.foldl_toList] at hc
  have hq : reprQuote x < 128 := by rcases quote_cases x with h | h <;> rw [h] <;> decide
  rcases List.mem_append.mp hc with hc | hc
  · exact fold_asc (reprQuote x) (quote_cases x) x.cps.toList #[reprQuote x] h (fun d hd => by
      have hd : d ∈ [reprQuote x] := hd
      rw [List.mem_singleton.mp hd]; exact hq) c hc
  · rw [List.mem_singleton.mp hc]; exact hq
theorem asc_textFrom : ∀ (ts : List Str) (k : Nat) (acc : Str), Asc acc → (∀ t ∈ ts, Asc t) → Asc (textFrom k acc ts)
  | [], _, acc, h, _ => h
  | t :: r, k, acc, h, ht => by
    refine asc_textFrom r (k + 1) _ (Asc.app (Asc.app h ?_) (ht t (List.mem_cons_self ..))) (fun u hu => ht u (List.mem_cons_of_mem _ hu))
    split <;> exact asc_by (by decide +kernel)
theorem asc_list {ts : List Str} (h : ∀ t ∈ ts, Asc t) : Asc (listText ts) := Asc.app (asc_textFrom ts 0 _ (asc_by (by decide +kernel)) h) (asc_by (by decide +kernel))
theorem asc_join : ∀ {ts : List Str}, (∀ t ∈ ts, Asc t) → Asc (Str.join ", " ts)
  | [], _ => asc_by (by decide +kernel)
  | [x], h => h x (List.mem_cons_self ..)
  | x :: y :: r, h => by
    show Asc (x ++ ", " ++ Str.join ", " (y :: r))
    exact Asc.app (Asc.app (h x (List.mem_cons_self ..)) (asc_by (by decide +kernel))) (asc_join fun t ht => h t (List.mem_cons_of_mem _ ht))
theorem asc_tuple {ts : List Str} (h : ∀ t ∈ ts, Asc t) : Asc (tupleText ts) := by
  unfold tupleText
  refine Asc.app (Asc.app (asc_by (by decide +kernel)) (asc_join h)) ?_
  split <;> exact asc_by (by decide +kernel)
mutual
/-- strings of signs below 128, no dict -/
def ascD : PyData → Prop
  | .none => True
  | .bool _ => True
  | .int _ => True
  | .str x => Asc x
  | .list xs => ascAll xs
  | .tuple xs => ascAll xs
  | .dict _ => False
def ascAll : List PyData → Prop
  | [] => True
  | x :: xs => ascD x ∧ ascAll xs
end
mutual
theorem asc_shown : ∀ d : PyData, ascD d → Asc d.shown
  | .none, _ => by simp only [PyData.shown]; exact asc_by (by decide +kernel)
  | .bool b, _ => by simp only [PyData.shown]; cases b <;> exact asc_by (by decide +kernel)
  | .int i, _ => by simp only [PyData.shown]; exact asc_int i
  | .str x, h => by simp only [ascD] at h; simp only [PyData.shown]; exact asc_repr h
  | .list xs, h => by simp only [ascD] at h; simp only [PyData.shown]; exact asc_list (asc_shownAll xs h)
  | .tuple xs, h => by simp only [ascD] at h; simp only [PyData.shown]; exact asc_tuple (asc_shownAll xs h)
  | .dict _, h => by simp only [ascD] at h
theorem asc_shownAll : ∀ xs : List PyData, ascAll xs → ∀ t ∈ PyData.shownAll xs, Asc t
  | [], _, t, ht => by simp only [PyData.shownAll] at ht; cases ht
  | x :: xs, h, t, ht => by
    simp only [ascAll] at h
    simp only [PyData.shownAll] at ht
    rcases List.mem_cons.mp ht with rfl | ht
    · exact asc_shown x h.1
    · exact asc_shownAll xs h.2 t ht
end
theorem shaped_told {w z : Str} (b : Bool) (hw : Asc w) (hz : Asc z) : SeqAt.shaped (.tuple [.str w, .str z, .bool b]) = true := by
  simp [SeqAt.shaped, PyData.canLay0, PyData.canLayAll0, PyData.depth, PyData.depthAll, hw.strOk, hz.strOk]
/-- the text of repr, in signs below 128 -/
def RpA (K : PySem.W.Frag) (H : Hp) (v : V) (z : Str) : Prop := RpV K H v z ∧ Asc z
theorem rpa {K : PySem.W.Frag} {H : Hp} {v : V} {d : PyData} (h : Dp K H v d) (s : shwB d) (a : ascD d) (h1 : d.depth ≤ 16) (h2 : szD d ≤ 100000) : RpA K H v d.shown := ⟨rpv h s h1 h2, asc_shown d a⟩
theorem rpa0 {K : PySem.W.Frag} {H : Hp} {a : Addr} (h : H a = some (.dK [])) : RpA K H (.ref a) (PyData.shown (.dict [])) := ⟨rpv0 h, asc_by (by decide +kernel)⟩
end LL
namespace LL
theorem log_small {n : Int} (h : n.natAbs < 2 ^ 64) : n.natAbs.log2 < 1920 := Nat.lt_of_lt_of_le (PySem.Flt.log2_lt_of (by decide) h) (by decide)
end LL
namespace LL
open PySem PySem.Spec PyProof.Rows L2
/-! what stays of values when tables change -/
def SamP (H H' : Hp) : Prop := ∀ b o, Pl o → H b = some o → H' b = some o
theorem SamP.of {H H' : Hp} (s : Same H H') : SamP H H' := fun b o _ e => s b o e
theorem Fr.samP {T : List (Addr × Str)} {H H' : Hp} (f : Fr T [] H H') : SamP H H' := fun b o p e => f.at_ e p (fun z => nomatch z)
theorem SamP.seqL {K : PySem.W.Frag} {H H' : Hp} {a : Addr} {xs : List V} (s : SamP H H') (h : SqL K H a xs) : SqL K H' a xs := by
  rcases h with (h | ⟨o, h⟩) | h
  · exact .inl (.inl (s _ _ trivial h))
  · exact .inl (.inr ⟨o, s _ _ trivial h⟩)
  · exact .inr h
theorem SamP.seqT {K : PySem.W.Frag} {H H' : Hp} {a : Addr} {xs : List V} (s : SamP H H') (h : SqT K H a xs) : SqT K H' a xs := by
  rcases h with (h | ⟨o, h⟩) | h
  · exact .inl (.inl (s _ _ trivial h))
  · exact .inl (.inr ⟨o, s _ _ trivial h⟩)
  · exact .inr h
theorem TyX.pl {K : PySem.W.Frag} {H H' : Hp} {v : V} {t : Value} (h : TyX K H v t) (s : SamP H H') : TyX K H' v t := by
  cases h with
  | base b =>
    refine .base ?_
    cases b with
    | non => exact .non
    | bl y => exact .bl y
    | int i => exact .int i
    | str y => exact .str y
    | flt y => exact .flt y
    | lst e => exact .lst (s _ _ trivial e)
    | frz e => exact .frz (s _ _ trivial e)
    | tup e => exact .tup (s _ _ trivial e)
    | dK e => exact .dK (s _ _ trivial e)
    | dT e => exact .dT (s _ _ trivial e)
    | ins e cl ha hn htk hm => exact .ins (s _ _ trivial e) cl ha hn htk hm
  | byt b => exact .byt b
  | set e => exact .set (s _ _ trivial e)
  | kList e c => exact .kList e c
  | kTuple e c => exact .kTuple e c
  | kDict e c => exact .kDict e c
  | fTuple e => exact .fTuple (s _ _ trivial e)
  | fDict e => exact .fDict (s _ _ trivial e)
mutual
theorem Dp.pl {K : PySem.W.Frag} {H H' : Hp} (s : SamP H H') : ∀ (d : PyData) (v : V), Dp K H v d → Dp K H' v d
  | .none, _, h => by cases h; exact .non
  | .bool b, _, h => by cases h; exact .bl b
  | .int i, _, h => by cases h; exact .int i
  | .str x, _, h => by cases h; exact .str x
  | .list xs, _, h => by
    cases h with
    | lst h1 h2 => exact .lst (s.seqL h1) (DpAll.pl s xs _ h2)
  | .tuple xs, _, h => by
    cases h with
    | tup h1 h2 => exact .tup (s.seqT h1) (DpAll.pl s xs _ h2)
  | .dict _, _, h => by cases h
theorem DpAll.pl {K : PySem.W.Frag} {H H' : Hp} (s : SamP H H') : ∀ (ds : List PyData) (vs : List V), DpAll K H vs ds → DpAll K H' vs ds
  | [], _, h => by cases h; exact .nil
  | d :: ds, _, h => by
    cases h with
    | cons h1 h2 => exact .cons (Dp.pl s d _ h1) (DpAll.pl s ds _ h2)
end
theorem RpV.pl {K : PySem.W.Frag} {H H' : Hp} {v : V} {z : Str} (h : RpV K H v z) (s : SamP H H') : RpV K H' v z := by
  rcases h with ⟨d, hd, r⟩ | ⟨a, rfl, e, r⟩
  · exact .inl ⟨d, Dp.pl s d v hd, r⟩
  · exact .inr ⟨a, rfl, s _ _ trivial e, r⟩
end LL
/-! LX10: texts cut at a sign; rows with a length and a check ahead. -/
namespace LL
open PySem PySem.Spec PyProof.Rows L2 TL PySem.Builtin PySem.Builtin.Str

/-- what stands ahead of the first s, and behind it (nothing, if there is none) -/
def bef (s : Nat) (l : List Nat) : List Nat := l.takeWhile (fun c => !decide (c = s))
def aft (s : Nat) (l : List Nat) : List Nat := (l.dropWhile (fun c => !decide (c = s))).drop 1
theorem bef_cons (s c : Nat) (l : List Nat) : bef s (c :: l) = if c = s then [] else c :: bef s l := by
  unfold bef
  rw [List.takeWhile_cons]
  by_cases h : c = s <;> simp [h]
theorem aft_cons (s c : Nat) (l : List Nat) : aft s (c :: l) = if c = s then l else aft s l := by
  unfold aft
  rw [List.dropWhile_cons]
  by_cases h : c = s <;> simp [h]
theorem bef_no (s : Nat) : ∀ l : List Nat, s ∉ bef s l
  | [] => by simp [bef]
  | c :: l => by
    rw [bef_cons]
    split
    · simp
    · next h =>
      intro z
      rcases List.mem_cons.mp z with z | z
      · exact h z.symm
      · exact bef_no s l z
theorem cut_at {s : Nat} : ∀ {l : List Nat}, s ∈ l → l = bef s l ++ s :: aft s l
  | [], h => by simp at h
  | c :: l, h => by
    rw [bef_cons, aft_cons]
    by_cases e : c = s
    · simp [e]
    · rw [if_neg e, if_neg e]
      rcases List.mem_cons.mp h with z | z
      · exact absurd z.symm e
      · rw [List.cons_append, ← cut_at z]
theorem bef_all {s : Nat} : ∀ {l : List Nat}, s ∉ l → bef s l = l
  | [], _ => rfl
  | c :: l, h => by
    rw [List.mem_cons, not_or] at h
    rw [bef_cons, if_neg (fun e => h.1 e.symm), bef_all h.2]
theorem aft_none {s : Nat} : ∀ {l : List Nat}, s ∉ l → aft s l = []
  | [], _ => rfl
  | c :: l, h => by
    rw [List.mem_cons, not_or] at h
    rw [aft_cons, if_neg (fun e => h.1 e.symm), aft_none h.2]
theorem bef_app {s : Nat} : ∀ {p : List Nat} (r : List Nat), s ∉ p → bef s (p ++ s :: r) = p
  | [], r, _ => by rw [List.nil_append, bef_cons, if_pos rfl]
  | c :: p, r, h => by
    rw [List.mem_cons, not_or] at h
    rw [List.cons_append, bef_cons, if_neg (fun e => h.1 e.symm), bef_app r h.2]
theorem aft_app {s : Nat} : ∀ {p : List Nat} (r : List Nat), s ∉ p → aft s (p ++ s :: r) = r
  | [], r, _ => by rw [List.nil_append, aft_cons, if_pos rfl]
  | c :: p, r, h => by
    rw [List.mem_cons, not_or] at h
    rw [List.cons_append, aft_cons, if_neg (fun e => h.1 e.symm), aft_app r h.2]
theorem aft_len (s : Nat) : ∀ l : List Nat, (aft s l).length ≤ l.length
  | [] => by simp [aft]
  | c :: l => by
    rw [aft_cons]
    have := aft_len s l
    split <;> simp only [List.length_cons] <;> omega
theorem aft_lt {s : Nat} {l : List Nat} (h : s ∈ l) : (aft s l).length < l.length := by
  have e := congrArg List.length (cut_at h)
  rw [List.length_append, List.length_cons] at e
  omega
theorem aft_mem {s c : Nat} {l : List Nat} (h : c ∈ aft s l) : c ∈ l := by
  by_cases m : s ∈ l
  · rw [cut_at m]
    exact List.mem_append_right _ (List.mem_cons_of_mem _ h)
  · rw [aft_none m] at h
    simp at h
theorem bef_mem {s c : Nat} {l : List Nat} (h : c ∈ bef s l) : c ∈ l := by
  by_cases m : s ∈ l
  · rw [cut_at m]
    exact List.mem_append_left _ h
  · rw [bef_all m] at h
    exact h
def mkS (l : List Nat) : Str := ⟨l.toArray⟩
theorem tl_mkS (l : List Nat) : tl (mkS l) = l := rfl
theorem mkS_tl (z : Str) : mkS (tl z) = z := ext_tl rfl
theorem part_2 {y : Str} {s : Nat} (ey : tl y = [s]) (a : Str) : (Txt.partition a y).2.2 = mkS (aft s (tl a)) := by
  by_cases m : s ∈ tl a
  · have e : a = mkS (bef s (tl a)) ++ y ++ mkS (aft s (tl a)) := by
      refine ext_tl ?_
      rw [TL.tl_append, TL.tl_append, ey, tl_mkS, tl_mkS, List.append_assoc]
      exact cut_at m
    have h := TL.partition_app (y := y) (S := []) ey (a := mkS (bef s (tl a))) (b := mkS (aft s (tl a))) (bef_no s _)
    rw [← e] at h
    rw [h]
  · rw [TL.partition_none (S := []) ey m, aft_none m]
    exact ext_tl rfl
theorem part_1 {y : Str} {s : Nat} (ey : tl y = [s]) (a : Str) : (Txt.partition a y).1 = mkS (bef s (tl a)) := by
  by_cases m : s ∈ tl a
  · have e : a = mkS (bef s (tl a)) ++ y ++ mkS (aft s (tl a)) := by
      refine ext_tl ?_
      rw [TL.tl_append, TL.tl_append, ey, tl_mkS, tl_mkS, List.append_assoc]
      exact cut_at m
    have h := TL.partition_app (y := y) (S := []) ey (a := mkS (bef s (tl a))) (b := mkS (aft s (tl a))) (bef_no s _)
    rw [← e] at h
    rw [h]
  · rw [TL.partition_none (S := []) ey m, bef_all m]
    exact ext_tl rfl

/-! ### lines -/
def lnsL (l : List Nat) : List (List Nat) := (spl [10] 0 [] l).dropLast
theorem spl_ne (S : List Nat) (k : Nat) (acc l : List Nat) : spl S k acc l ≠ [] := by
  induction l generalizing k acc with
  | nil => rw [spl_nil]; simp
  | cons c l ih =>
    cases k with
    | zero =>
      by_cases h : pre S (c :: l) = true
      · rw [spl_hit h]; simp
      · rw [spl_miss (by simpa using h)]; exact ih 0 _
    | succ k => exact ih k acc
theorem lns_cons {l : List Nat} (h : 10 ∈ l) : lnsL l = bef 10 l :: lnsL (aft 10 l) := by
  unfold lnsL
  conv => lhs; rw [cut_at h]
  have e := spl_part1 (s := 10) (S := []) (p := bef 10 l) (rest := aft 10 l) (acc := []) (bef_no 10 l)
  rw [show ([10] : List Nat) ++ aft 10 l = 10 :: aft 10 l from rfl] at e
  rw [e, List.nil_append, List.dropLast_cons_of_ne_nil (spl_ne _ _ _ _)]
theorem lns_nil {l : List Nat} (h : 10 ∉ l) : lnsL l = [] := by
  unfold lnsL
  rw [spl_last1 (S := []) h]
  rfl
theorem lns_app {p : List Nat} (h : 10 ∉ p) (r : List Nat) : lnsL (p ++ 10 :: r) = p :: lnsL r := by
  rw [lns_cons (by simp), bef_app r h, aft_app r h]
theorem split_lns {y : Str} (ey : tl y = [10]) (a : Str) : ((Txt.split a y).map tl) = spl [10] 0 [] (tl a) := by
  rw [split_spl a y (by rw [ey]; simp) (kind_ok ?_), ey]
  rw [← Array.all_toList]
  show (tl y).all _ = true
  rw [ey]; rfl

/-! ### rows -/
def chkN (l : List Nat) : Nat := l.foldl (fun c s => (31 * c + s) % 1000003) 7
def rowL (r : List Nat) : List Nat := numL r.length ++ 32 :: (numL (chkN r) ++ 32 :: (r ++ [10]))
def recL (l : List Nat) : List Nat := aft 32 (aft 32 l)
def okL (l : List Nat) : Bool := decide (rowL (recL l) = l ++ [10])
/-- the records of the lines ahead of the first that is no row -/
def whoL (ls : List (List Nat)) : List (List Nat) := (ls.takeWhile okL).map recL
theorem chk_lt (l : List Nat) : chkN l < 1000003 := by
  unfold chkN
  suffices h : ∀ (l : List Nat) (k : Nat), k < 1000003 → l.foldl (fun c s => (31 * c + s) % 1000003) k < 1000003 from h l 7 (by decide)
  intro l
  induction l with
  | nil => exact fun k hk => hk
  | cons c l ih => exact fun k _ => ih _ (Nat.mod_lt _ (by decide))
theorem rec_row (n m : Nat) (r : List Nat) : recL (numL n ++ 32 :: (numL m ++ 32 :: r)) = r := by
  unfold recL
  rw [aft_app _ (numL_free (by decide)), aft_app _ (numL_free (by decide))]
theorem row_line (r : List Nat) : rowL r = (numL r.length ++ 32 :: (numL (chkN r) ++ 32 :: r)) ++ [10] := by
  unfold rowL
  simp
/-- the row of r without its line feed -/
def linL (r : List Nat) : List Nat := numL r.length ++ 32 :: (numL (chkN r) ++ 32 :: r)
theorem ok_lin (r : List Nat) : okL (linL r) = true := by
  unfold okL linL
  rw [rec_row, row_line]
  exact decide_eq_true rfl
theorem ok_iff {l : List Nat} : okL l = true ↔ ∃ r, l = linL r := by
  constructor
  · intro h
    have h := of_decide_eq_true h
    rw [row_line] at h
    exact ⟨recL l, (List.append_cancel_right h).symm⟩
  · rintro ⟨r, rfl⟩; exact ok_lin r
theorem lin_free {r : List Nat} (h : 10 ∉ r) : 10 ∉ linL r := by
  unfold linL
  simp only [List.mem_append, List.mem_cons, not_or]
  exact ⟨numL_free (by decide), by decide, numL_free (by decide), by decide, h⟩
theorem who_rows : ∀ (rs : List (List Nat)) (l : List Nat), (∀ r ∈ rs, 10 ∉ r) → whoL (lnsL ((rs.map rowL).flatten ++ l)) = rs ++ whoL (lnsL l)
  | [], l, _ => by simp
  | r :: rs, l, h => by
    rw [List.map_cons, List.flatten_cons, row_line, ← linL, List.append_assoc, List.append_assoc, List.singleton_append, lns_app (lin_free (h r (List.mem_cons_self ..)))]
    unfold whoL
    rw [List.takeWhile_cons, if_pos (ok_lin r), List.map_cons]
    have := who_rows rs l fun x hx => h x (List.mem_cons_of_mem _ hx)
    unfold whoL at this
    rw [this]
    unfold linL
    rw [rec_row]
    rfl

/-! ### loops over texts -/
section
variable {g : TG} {tb : TS} {tt : TT} {te : TE} {n : L2.St → Hp → Prop} {r : VK} {σ : L2.St} {H H1 : Hp} {Q : VK} {is : List Nat} {K : PySem.W.Frag}
theorem u_str {z : Str} (Pv : Nat → L2.St → Hp → Prop) (h0 : Pv 0 σ H) (hs : ∀ i c σ H, (TL.tl z)[i]? = some c → Pv i σ H → g (.str ⟨#[c]⟩) σ H fun σ2 H2 => tb { nx := Pv (i + 1), rt := r, bk := n, ct := Pv (i + 1) } σ2 H2)
    (hd : ∀ σ H, Pv (TL.tl z).length σ H → n σ H) : ForK g tb n r σ (Its z) H :=
  for_it (D := { nx := n, rt := r }) walk_str Pv h0 (fun _ _ _ _ _ => trivial) (fun i x σ H H' hi p y => by
    obtain ⟨rfl, c, ec, rfl⟩ := y
    exact hs i c σ H' (by rw [← ec]; exact Array.getElem?_toList) p) (fun σ H p => hd σ H (by rw [Array.length_toList]; exact p))
theorem u_list {a : Addr} {xs : List V} (Pv : Nat → L2.St → Hp → Prop) (h0 : Pv 0 σ H) (hl : ∀ i σ H, i ≤ xs.length → Pv i σ H → SqL K H a xs)
    (hs : ∀ i x σ H, xs[i]? = some x → Pv i σ H → g x σ H fun σ2 H2 => tb { nx := Pv (i + 1), rt := r, bk := n, ct := Pv (i + 1) } σ2 H2)
    (hd : ∀ σ H, Pv xs.length σ H → n σ H) : ForK g tb n r σ (Itl K a) H :=
  for_it (D := { nx := n, rt := r }) walk_list Pv h0 hl (fun i x σ H H' hi p y => by
    obtain ⟨rfl, ex⟩ := y
    exact hs i x σ H' ex p) hd
theorem u_lcSf {z : Str} (q : ∀ D H0, H1 D = none → Same H1 H0 → H0 D = some (.lst []) → (∀ b, b ≠ D → H0 b = H1 b) → ∃ Pv : Nat → Hp → Prop, Pv 0 H0 ∧ (∀ i c H, (TL.tl z)[i]? = some c → Pv i H → g (.str ⟨#[c]⟩) (wipe σ is) H fun σ2 H2 => wipe σ2 is = wipe σ is ∧ tt σ2 H2 fun b H3 =>
      if b = true then te σ2 H3 (Grow D (Pv (i + 1))) else Pv (i + 1) H3) ∧ ∀ H, Pv (TL.tl z).length H → Q (.ref D) H) : LcK g tt te is σ Q (Its z) H1 := by
  intro D hD
  obtain ⟨Pv, h0, hs, hd⟩ := q D _ hD (fun b o e => by rw [upd_ne (ne_of_none e hD)]; exact e) upd_same fun b hb => upd_ne hb
  refine lc_it walk_str Pv h0 (fun _ _ _ _ => trivial) (fun i x H H' hi p y => ?_) (fun H p => hd H (by rw [Array.length_toList]; exact p))
  obtain ⟨rfl, c, ec, rfl⟩ := y
  exact hs i c H' (by rw [← ec]; exact Array.getElem?_toList) p
end
theorem six_neg (n d : Nat) : HT.sIx n d (some (-1)) = n - 1 := by
  show (if (-1 : Int) < 0 then (-1 + (n : Int)).toNat else min (-1 : Int).toNat n) = n - 1
  rw [if_pos (by decide)]
  omega
theorem tl_ini (z : Str) : TL.tl (cutS z none (some (-1))) = (TL.tl z).dropLast := by
  unfold cutS
  rw [HT.sIx_none, six_neg, Nat.sub_zero, List.drop_zero, List.dropLast_eq_take, ← TL.len_tl]
theorem cut_ini (xs : List V) : cutV xs none (some (-1)) = xs.dropLast := by
  unfold cutV
  rw [HT.sIx_none, six_neg, Nat.sub_zero, List.drop_zero, List.dropLast_eq_take]
theorem r_slL {K : PySem.W.Frag} {H : Hp} {Q : VK} {a : Addr} {xs : List V} {lo hi : Option Int} (h : SqL K H a xs) (q : ∀ p H', H p = none → Same H H' → H' p = some (.lst (cutV xs lo hi)) → (∀ b, b ≠ p → H' b = H b) → Q (.ref p) H') : rSlL K (.ref a) lo hi H Q :=
  ⟨a, xs, rfl, h, fun p hp => q p _ hp (same_upd hp) upd_same fun b hb => upd_ne hb⟩
theorem r_strs {H : Hp} {Q : VK} {ys : List Str} (q : ∀ p H', H p = none → Same H H' → H' p = some (.lst (ys.map V.str)) → (∀ b, b ≠ p → H' b = H b) → Q (.ref p) H') : rNewStrs ys H Q :=
  fun p hp => q p _ hp (same_upd hp) upd_same fun b hb => upd_ne hb
theorem r_its {te : TE} {σ : L2.St} {H : Hp} {R : It → Hp → Prop} (q : te σ H fun v H1 => ∃ x, v = .str x ∧ R (Its x) H1) : iStr te σ H R := q
theorem q_its {z : Str} {A : Str → Prop} (q : A z) : ∃ x, V.str z = .str x ∧ A x := ⟨z, rfl, q⟩
theorem q_fmtI {m : Int} {A : Str → Prop} {C : Int → Prop} (h : m.natAbs.log2 < 1920) (q : C m) : (∃ y : Str, V.int m = .str y ∧ y.length ≤ sizeLine ∧ A y) ∨ ∃ i : Int, V.int m = .int i ∧ i.natAbs.log2 < 1920 ∧ C i := .inr ⟨m, rfl, h, q⟩
theorem q_fmtS {z : Str} {A : Str → Prop} {C : Int → Prop} (h : z.length ≤ sizeLine) (q : A z) : (∃ y : Str, V.str z = .str y ∧ y.length ≤ sizeLine ∧ A y) ∨ ∃ i : Int, V.str z = .int i ∧ i.natAbs.log2 < 1920 ∧ C i := .inl ⟨z, rfl, h, q⟩
theorem q_js {z : Str} {A B : Str → Prop} (h : A z) (q : B z) : ∃ y : Str, V.str z = .str y ∧ A y ∧ B y := ⟨z, rfl, h, q⟩
theorem tl_toS (n : Nat) : TL.tl (Str.ofString (toString ((n : Nat) : Int))) = numL n := tl_num n
theorem q_str {K : PySem.W.Frag} {H : Hp} {z : Str} {A : Prop} (q : A) : tyV K "str" (.str z) H ∧ A := ⟨rfl, q⟩
theorem tl_inj2 {a b : List Nat} : (mkS a = mkS b) ↔ a = b := ⟨fun e => congrArg TL.tl e, fun e => by rw [e]⟩
theorem part_heap {H : Hp} {a b : Str} {s : Nat} {p : Addr} (eb : TL.tl b = [s]) (hp : H p = none) : ∃ H' m, upd H p (.tup [.str (Txt.partition a b).1, .str (Txt.partition a b).2.1, .str (Txt.partition a b).2.2]) = H' ∧ Same H H' ∧
    H' p = some (.tup [.str (mkS (bef s (TL.tl a))), .str m, .str (mkS (aft s (TL.tl a)))]) :=
  ⟨_, (Txt.partition a b).2.1, rfl, same_upd hp, by rw [upd_same, part_1 eb, part_2 eb]⟩
theorem lns_mem : ∀ (n : Nat) {x l : List Nat}, x.length ≤ n → l ∈ lnsL x → 10 ∉ l ∧ (∀ c ∈ l, c ∈ x) ∧ l.length ≤ x.length
  | n, x, l, hn, h => by
    by_cases m : 10 ∈ x
    · rw [lns_cons m] at h
      have lt := aft_lt m
      have e := congrArg List.length (cut_at m)
      rw [List.length_append, List.length_cons] at e
      rcases List.mem_cons.mp h with rfl | h
      · exact ⟨bef_no 10 x, fun c => bef_mem, by omega⟩
      · match n with
        | 0 => omega
        | n + 1 =>
          obtain ⟨a, b, c⟩ := lns_mem n (by omega) h
          exact ⟨a, fun k hk => aft_mem (b k hk), by omega⟩
    · rw [lns_nil m] at h
      simp at h
theorem lns_cnt (x : List Nat) : (lnsL x).length ≤ x.length := by
  suffices h : ∀ n (x : List Nat), x.length ≤ n → (lnsL x).length ≤ x.length from h _ x (Nat.le_refl _)
  intro n
  induction n with
  | zero =>
    intro x hx
    rw [List.eq_nil_of_length_eq_zero (by omega : x.length = 0), lns_nil (by simp)]
    simp
  | succ n ih =>
    intro x hx
    by_cases m : 10 ∈ x
    · rw [lns_cons m]
      have lt := aft_lt m
      have := ih (aft 10 x) (by omega)
      rw [List.length_cons]
      omega
    · rw [lns_nil m]; simp
theorem lns_strs {y : Str} (ey : TL.tl y = [10]) (a : Str) : (Txt.split a y).dropLast = (lnsL (TL.tl a)).map mkS := by
  refine TL.map_tl_inj ?_
  rw [List.map_map, List.map_dropLast, split_lns ey]
  show lnsL (TL.tl a) = (lnsL (TL.tl a)).map (fun l => l)
  rw [List.map_id']
theorem who_step {ls : List (List Nat)} {i : Nat} {l : List Nat} (h : ls[i]? = some l) : whoL (ls.drop i) = if okL l = true then recL l :: whoL (ls.drop (i + 1)) else [] := by
  obtain ⟨hi, e⟩ := List.getElem?_eq_some_iff.mp h
  rw [List.drop_eq_getElem_cons hi, e]
  unfold whoL
  rw [List.takeWhile_cons]
  split <;> simp_all
theorem rec_mem {c : Nat} {l : List Nat} (h : c ∈ recL l) : c ∈ l := aft_mem (aft_mem h)
theorem rec_len (l : List Nat) : (recL l).length ≤ l.length := Nat.le_trans (aft_len _ _) (aft_len _ _)
theorem same_none {H H' : Hp} {p : Addr} (s : Same H H') (h : H' p = none) : H p = none := by
  cases e : H p with
  | none => rfl
  | some o =>
    have := s _ _ e
    rw [h] at this
    cases this
theorem same_put {H H1 H2 : Hp} {D : Addr} (s : Same H H1) (hD : H D = none) (ne : ∀ b, b ≠ D → H2 b = H1 b) : Same H H2 := fun b o e => by rw [ne b (ne_of_none e hD)]; exact s b o e
theorem r_brk {n b c : L2.St → Hp → Prop} {r : VK} {σ : L2.St} {H : Hp} (q : b σ H) : tBreak { nx := n, rt := r, bk := b, ct := c } σ H := q
theorem q_grown {l : Addr} {xs : List V} {y : V} {H : Hp} {Q : VK} (h : H l = some (.lst xs)) (hz : xs.length < 100000) (q : ∀ H2, H2 l = some (.lst (xs ++ [y])) → (∀ b, b ≠ l → H2 b = H b) → Q .non H2) : rAppend (.ref l) [y] H Q := r_append h (Nat.lt_of_lt_of_le hz (by decide)) (q _ upd_same fun b hb => upd_ne hb)
theorem chk_step {l : List Nat} {i c : Nat} (h : l[i]? = some c) : chkN (l.take (i + 1)) = (31 * chkN (l.take i) + c) % 1000003 := by
  unfold chkN
  rw [List.take_add_one, h, List.foldl_append]
  rfl
end LL
/-! LX14: lists of texts compared. -/
namespace LL
open PySem PySem.Spec PyProof.Rows L2 TL
theorem eqv_strs : ∀ xs ys : List Str, PyData.eqvAll (xs.map PyData.str) (ys.map PyData.str) = decide (xs = ys)
  | [], [] => by simp [PyData.eqvAll]
  | [], _ :: _ => by simp [PyData.eqvAll]
  | _ :: _, [] => by simp [PyData.eqvAll]
  | x :: xs, y :: ys => by
    simp only [List.map_cons, PyData.eqvAll, PyData.eqv, eqv_strs xs ys]
    by_cases h1 : x = y
    · by_cases h2 : xs = ys <;> simp [h1, h2]
    · simp [h1]
theorem dp_strs {K : PySem.W.Frag} {H : Hp} : ∀ xs : List Str, DpAll K H (xs.map V.str) (xs.map PyData.str)
  | [] => .nil
  | x :: xs => .cons (.str x) (dp_strs xs)
theorem shaped_strs {xs : List Str} (h : ∀ x ∈ xs, Asc x) : SeqAt.shaped (.list (xs.map PyData.str)) = true := by
  have h1 : ∀ {l : List Str}, (∀ x ∈ l, Asc x) → PyData.canLayAll0 (l.map PyData.str) = true := by
    intro l
    induction l with
    | nil => intro _; simp [PyData.canLayAll0]
    | cons x l ih =>
      intro h
      simp [PyData.canLayAll0, PyData.canLay0, (h x (List.mem_cons_self ..)).strOk, ih fun y hy => h y (List.mem_cons_of_mem _ hy)]
  have h2 : ∀ l : List Str, PyData.depthAll (l.map PyData.str) ≤ 1 := by
    intro l
    induction l with
    | nil => simp [PyData.depthAll]
    | cons x l ih => simp only [List.map_cons, PyData.depthAll, PyData.depth]; omega
  have := h2 xs
  simp only [SeqAt.shaped, PyData.canLay0, h1 h, PyData.depth, Bool.true_and]
  simp
  omega
theorem r_eqStrs {K : PySem.W.Frag} {H : Hp} {Q : VK} {a b : Addr} {xs ys : List Str} (ha : H a = some (.lst (xs.map V.str))) (hb : H b = some (.lst (ys.map V.str))) (hx : ∀ x ∈ xs, Asc x) (hy : ∀ x ∈ ys, Asc x) (q : Q (.bl (decide (xs = ys))) H) : rEqD K (.ref a) (.ref b) H Q :=
  ⟨_, _, .lst (.inl (.inl ha)) (dp_strs xs), .lst (.inl (.inl hb)) (dp_strs ys), shaped_strs hx, shaped_strs hy, by
    show Q (.bl (PyData.eqvAll _ _)) H
    rw [eqv_strs]; exact q⟩
end LL
/-! LL13: == of two dicts whose values are instances of an own class, compared by its __eq__. -/
namespace LL
open PySem PySem.Spec PyProof.Rows L2 PySem.Calls
def eqK (ka kb : List (Key × V)) (e : Key → Bool) : Bool := ka.length == kb.length && ka.all fun kv => (valV kb kv.1).isSome && e kv.1
def rEqDO (C : Addr) (sp : Sp) (E : XK) : R2 := fun x y H Q => ∃ a b ka kb, ∃ e : Key → Bool, x = .ref a ∧ y = .ref b ∧ H a = some (.dK ka) ∧ H b = some (.dK kb) ∧
  (∀ H1 k v u, (∀ c, c ≠ a → c ≠ b → H1 c = H c) → (k, v) ∈ ka → valV kb k = some u → ∃ p q, v = .ref p ∧ u = .ref q ∧ InsAt C H1 p ∧ InsAt C H1 q ∧ (p = q → e k = true) ∧ ∀ Q' : VK, Q' (.bl (e k)) H1 → sp [.ref p, .ref q] H1 Q' E) ∧ Q (.bl (eqK ka kb e)) H
theorem kv_mem {ks : List (Key × V)} {vs : List (Key × Value)} (r : KV ks vs) {k : Key} {v : Value} (h : (k, v) ∈ vs) : ∃ y, (k, y) ∈ ks ∧ RelV y v := by
  induction r with
  | nil => cases h
  | @cons p q ps qs hq t ih =>
    rcases List.mem_cons.mp h with e | h
    · subst e
      exact ⟨p.2, by have e1 : p.1 = k := hq.1; rw [← e1]; exact List.mem_cons_self, hq.2⟩
    · obtain ⟨y, h1, h2⟩ := ih h
      exact ⟨y, List.mem_cons_of_mem _ h1, h2⟩
theorem kv_all {kb : List (Key × V)} {vb : List (Key × Value)} (rb : KV kb vb) {e : Key → Bool} {ka : List (Key × V)} {va : List (Key × Value)} (ra : KV ka va) :
    (va.all fun kv => (valueAt vb kv.1).isSome && e kv.1) = ka.all fun kv => (valV kb kv.1).isSome && e kv.1 := by
  induction ra with
  | nil => rfl
  | @cons p q ps qs hq t ih =>
    rw [List.all_cons, List.all_cons, ih, ← hq.1, (rb.val p.1).isSome_eq]
section
variable {X : Cx} {CX : CXT} {g : Bool} {k : Nat} {f C : Addr} {fd : FuncData} {ps : List Str} {sp : Sp} {E : XK} {Ts : List String}
theorem op_eqDO (O : EqOwn X.K C f Ts) (F : FnG X.prog X.w X.K X.mg X.base CX g k f fd ps sp) (hr : Room (k + 1) X.A) (hg : Clr g X.A) (hb : Binds X.K fd ps []) (hx : Passes CX X E) : OpR X (compareOp .Eq) (rEqDO C sp E) := by
  intro pins s σ H x y v u Q I rx ry h
  obtain ⟨a, b, ka, kb, e, rfl, rfl, ha, hb2, el, q⟩ := h
  obtain rfl : v = Value.ref a := rx
  obtain rfl : u = Value.ref b := ry
  have hr1 : Room k X.A.in1 := hr.in1
  obtain ⟨za, na, va, ra, oa, es, ep, ga, xa, da, ksa, pa, nda⟩ := dk_of I.hok ha
  obtain ⟨zb, nb, vb, rb, ob, es2, ep2, gb, xb, db, ksb, pb, ndb⟩ := dk_of I.hok hb2
  -- both dicts locked
  have lk : ∃ H1, Inv X pins σ H1 s ∧ (∀ s', Inv X pins σ H1 s' → s'.heap.get? a = some oa ∧ s'.heap.get? b = some ob ∧ Inv X pins σ H s') ∧ ∀ c, c ≠ a → c ≠ b → H1 c = H c := by
    obtain ⟨oa', I1⟩ := I.lock ha trivial
    have fa : (upd H a (.frz oa' (.dK ka))) a = some (.frz oa' (.dK ka)) := upd_same
    have ea : oa' = oa := by
      have z := (I1.hok a _ fa).1
      rw [ga] at z
      exact (Option.some.inj z).symm
    subst ea
    have back : ∀ s', Inv X pins σ (upd H a (.frz oa' (.dK ka))) s' → s'.heap.get? a = some oa' ∧ Inv X pins σ H s' := fun s' J => by
      refine ⟨(J.hok a _ fa).1, ?_⟩
      have J2 := J.unlock fa (I.nofrz ha trivial)
      have eq : upd (upd H a (.frz oa' (.dK ka))) a (.dK ka) = H := by
        funext c
        by_cases hc : c = a
        · rw [hc, upd_same, ha]
        · rw [upd_ne hc, upd_ne hc]
      rw [eq] at J2
      exact J2
    by_cases hab : a = b
    · subst hab
      have eo : oa' = ob := Option.some.inj (ga.symm.trans gb)
      subst eo
      exact ⟨_, I1, fun s' J => ⟨(back s' J).1, (back s' J).1, (back s' J).2⟩, fun c h1 _ => upd_ne h1⟩
    · have hb3 : (upd H a (.frz oa' (.dK ka))) b = some (.dK kb) := by rw [upd_ne (Ne.symm hab)]; exact hb2
      obtain ⟨ob', I2⟩ := I1.lock hb3 trivial
      have fb : (upd (upd H a (.frz oa' (.dK ka))) b (.frz ob' (.dK kb))) b = some (.frz ob' (.dK kb)) := upd_same
      have eb : ob' = ob := by
        have z := (I2.hok b _ fb).1
        rw [gb] at z
        exact (Option.some.inj z).symm
      subst eb
      refine ⟨_, I2, fun s' J => ?_, fun c h1 h2 => by rw [upd_ne h2, upd_ne h1]⟩
      have J2 := J.unlock fb (I1.nofrz hb3 trivial)
      have eq : upd (upd (upd H a (.frz oa' (.dK ka))) b (.frz ob' (.dK kb))) b (.dK kb) = upd H a (.frz oa' (.dK ka)) := by
        funext c
        by_cases hc : c = b
        · rw [hc, upd_same, hb3]
        · rw [upd_ne hc, upd_ne hc]
      rw [eq] at J2
      exact ⟨(back s' J2).1, (J.hok b _ fb).1, (back s' J2).2⟩
  obtain ⟨H1, I1, fix, off⟩ := lk
  show wpAny (model X.prog X.w) X.A (richCompare .Eq (.ref a) (.ref b)) (EP X pins σ Q) X.xe s
  have ta : s.TypeIs (.ref a) "dict" := ⟨oa, ga, xa.1⟩
  have tb : s.TypeIs (.ref b) "dict" := ⟨ob, gb, xb.1⟩
  refine wpAny_richCompare_same_room (op := .Eq) ta tb PySem.F.slot_dict_eq (wpAny_call_entry PySem.F.slot_dict_eq ta PySem.F.entry_dict_eq ?_ (PySem.F.args_dict_eq_2 _ _)) hr.units0
  show wpAny _ _ (Builtin.Dict.dictSlotArgs "__eq__" ⟨[.ref a, .ref b], []⟩ >>= _) _ _ s
  unfold Builtin.Dict.dictSlotArgs
  refine wpAny_bind (wpAny_bind (wpAny_notOrdered_dict ta (wpAny_pure ?_)))
  refine wpAny_bind (wpAny_isInstance (T := "dict") tb PySem.F.sub_dict_dict ?_)
  simp only [Bool.not_true, Bool.false_eq_true, if_false]
  refine wpAny_bind (wpAny_pure (wpAny_bind (wpAny_pure (wpAny_bind ?_))))
  refine pairs_walk (P := fun s' => Inv X pins σ H1 s') (e := e) (va := va) (vb := vb) na nb da db ksa ksb pa pb (fun s' J => (fix s' J).1) (fun s' J => (fix s' J).2.1) I1 (fun key v y s' hm hv J => ?_) (fun s' J => ?_)
  · obtain ⟨v2, hm2, rv⟩ := kv_mem ra hm
    have hv2 := rb.val key
    rw [hv] at hv2
    obtain ⟨u2, hu2⟩ : ∃ u2, valV kb key = some u2 := by
      cases z : valV kb key with
      | none => rw [z] at hv2; exact False.elim hv2
      | some u2 => exact ⟨u2, rfl⟩
    rw [hu2] at hv2
    have ru : RelV u2 y := hv2
    obtain ⟨p, q2, rfl, rfl, ip, iq, self_, run⟩ := el H1 key v2 u2 off hm2 hu2
    obtain rfl : v = Value.ref p := rv
    obtain rfl : y = Value.ref q2 := ru
    unfold eqBool
    refine wpAny_holding ?_
    by_cases hpq : p = q2
    · rw [if_pos (by rw [hpq]; exact beq_self_eq_true _)]
      exact wpAny_bind (wpAny_rule (wpAny_pure ⟨(self_ hpq).symm, J⟩))
    · rw [if_neg (fun z => hpq (Value.ref.inj (beq_iff_eq.mp z)))]
      obtain ⟨dx, fs, ep3⟩ := ip
      obtain ⟨dy, gs, eq3⟩ := iq
      obtain ⟨ox, od, J1⟩ := inst_of J ep3
      obtain ⟨oy, od2, J2⟩ := inst_of J eq3
      obtain ⟨m, Fr0⟩ := J.fr
      refine wpAny_bind ?_
      refine PySem.W.cmp_K hr1.units0 Fr0 J.ok.mod.kin J1 J2.type (by show (Value.ref C == Value.ref C || _) = true; rw [beq_self_eq_true, Bool.true_or]) O.at_ O.fn ?_
      refine wpAny_mono (run_g (us := [.ref p, .ref q2]) (vs := [.ref p, .ref q2]) (dvs := []) (E' := X.xe) (Q := fun z H2 => z = .bl (e key) ∧ H2 = H1) F hr1 (clr_in1 hg) rfl hb .nil hx J (.cons rfl (.cons rfl .nil)) (run _ ⟨rfl, rfl⟩)) (fun r s2 z => ?_) fun _ _ z => z
      obtain ⟨z1, H2, J3, r3, rfl, rfl⟩ := z
      obtain rfl : r = Value.bool (e key) := r3
      exact wpAny_truthy_bool ⟨rfl, J3⟩
  · obtain ⟨_, _, J2⟩ := fix s' J
    have el2 : (va.length == vb.length && va.all fun kv => (valueAt vb kv.1).isSome && e kv.1) = eqK ka kb e := by
      rw [kv_all rb ra, ← ra.length, ← rb.length]
      rfl
    rw [el2]
    refine wpAny_pure ⟨_, rfl, ?_, ?_⟩
    · exact fun z => nomatch z
    · have sh : Value.bool (eqK ka kb e == true) = Value.bool (eqK ka kb e) := by cases eqK ka kb e <;> rfl
      first
        | exact ⟨.bl _, H, J2, rfl, q⟩
        | (rw [sh]; exact ⟨.bl _, H, J2, rfl, q⟩)
        | (simp only [beq_true]; exact ⟨.bl _, H, J2, rfl, q⟩)
end
end LL
namespace LL
open PySem PySem.Spec PyProof.Rows L2
section
variable {σ : L2.St} {H H1 : Hp} {g : TG} {tb : TS} {n : L2.St → Hp → Prop} {r : VK} {K : PySem.W.Frag}
end
end LL
namespace LL
open PySem PySem.Spec PyProof.Rows L2
theorem r_slice {r : V → Option Int → Option Int → Hp → VK → Prop} {te : TE} {tl th : TO} {σ : L2.St} {H : Hp} {Q : VK} (q : te σ H fun x H1 => tl σ H1 fun l H2 => th σ H2 fun u H3 => r x l u H3 Q) : tSl r te tl th σ H Q := q
theorem cut1 {x : V} {r : List V} : cutV (x :: r) (some 1) none = r := by
  unfold cutV
  rw [HT.sIx_none, show (1 : Int) = ((1 : Nat) : Int) from rfl, HT.sIx_nat, List.length_cons, Nat.min_eq_left (by omega), List.drop_one, List.tail_cons, show r.length + 1 - 1 = r.length by omega, List.take_length]
end LL
/-! LY1: a class method with a parameter for further keywords, called by keywords. -/
namespace LL
open PySem PySem.Spec PyProof.Rows L2

/-! ### a namespace's store into a dict of our own -/
section
variable {X : Cx} {pins : List (Addr × Obj)} {σ : L2.St} {H : Hp} {s : Shared} {a : Addr} {v : V} {r : Value} {A : Around} {E : Value → Shared → Prop}
theorem pairs_keys {P : Program} {w : World} : ∀ {es : List DictEntry} {vs : List (Key × Value)}, Pairs (mixKind P w) es vs → ∀ e ∈ es, ∃ kv ∈ vs, keyIs kv.1 e.key = true
  | _, _, .nil, e, h => nomatch h
  | _, _, .cons h1 _ r, e, h => by
    rcases List.mem_cons.mp h with rfl | h
    · exact ⟨_, List.mem_cons_self, h1⟩
    · obtain ⟨kv, m, k⟩ := pairs_keys r e h
      exact ⟨kv, List.mem_cons_of_mem _ m, k⟩
theorem pairs_snoc {P : Program} {w : World} {e : DictEntry} {kv : Key × Value} (h1 : keyIs kv.1 e.key = true) (h2 : e.val = kv.2) : ∀ {es : List DictEntry} {vs : List (Key × Value)}, Pairs (mixKind P w) es vs → Pairs (mixKind P w) (es ++ [e]) (vs ++ [kv])
  | _, _, .nil => .cons h1 h2 .nil
  | _, _, .cons a b r => .cons a b (pairs_snoc h1 h2 r)
theorem isStr_self (k : Str) (t : Nat) : keyIs (.inr k) (.str k t) = true := by
  simp [keyIs, Value.isStrOf]
theorem kv_snoc {k : Key} {v : V} {r : Value} (rv : RelV v r) : ∀ {kvs : List (Key × V)} {vs : List (Key × Value)}, KV kvs vs → KV (kvs ++ [(k, v)]) (vs ++ [(k, r)])
  | _, _, .nil => .cons ⟨rfl, rv⟩ .nil
  | _, _, .cons a q => .cons a (kv_snoc rv q)
theorem d_nsSet {Q : Unit → Shared → Prop} {k : Str} {kvs : List (Key × V)} (I : Inv X pins σ H s) (e : H a = some (.dK kvs)) (nw : ∀ kv ∈ kvs, kv.1 ≠ .inr k) (l : kvs.length < sizeLine) (rv : RelV v r)
    (h : ∀ s', Inv X pins σ (upd H a (.dK (kvs ++ [(.inr k, v)]))) s' → Q () s') : wpAny (model X.prog X.w) A (nsSet a k r) Q E s := by
  obtain ⟨z, hd, vs, rel, o, es, ep, ho, ex, hdt, hk, pr, nd⟩ := dk_of I.hok e
  have keysNe : ∀ kv ∈ vs, kv.1 ≠ .inr k := fun kv m => by
    have : kv.1 ∈ kvs.map (·.1) := by rw [rel.keys]; exact List.mem_map.mpr ⟨kv, m, rfl⟩
    obtain ⟨kv2, m2, e2⟩ := List.mem_map.mp this
    rw [← e2]
    exact nw kv2 m2
  have shape : ∀ x ∈ es.toList, x.key.isStr k = false ∧ x.refKey = false := fun x hx => by
    obtain ⟨kv, m, hi⟩ := pairs_keys pr x hx
    rcases keyIs_shape hi with ⟨i, t, e1, e2⟩ | ⟨y, t, e1, e2⟩
    · unfold DictEntry.refKey
      rw [e2]
      exact ⟨rfl, rfl⟩
    · unfold DictEntry.refKey
      rw [e2]
      refine ⟨?_, rfl⟩
      show (y == k) = false
      exact beq_eq_false_iff_ne.mpr fun q => keysNe kv m (by rw [e1, q])
  have none1 : es.findIdx? (fun x => x.key.isStr k) = none := by
    rw [Array.findIdx?_eq_none_iff]
    exact fun x hx => (shape x (Array.mem_toList_iff.mpr hx)).1
  have none2 : aRefKeyMayBeTheName k es = false := by
    rw [aRefKeyMayBeTheName_at]
    have : es.any (·.refKey) = false := by
      rw [← Array.any_toList, List.any_eq_false]
      exact fun x hx => by rw [(shape x hx).2]; exact Bool.false_ne_true
    rw [this, Bool.and_false]
  unfold nsSet
  refine wpAny_bind (wpAny_bind (wpAny_askSetting (wpAny_pure (wpAny_bind (wpAny_mkText (wpAny_bind (wpAny_loadPart ho ?_)))))))
  rw [hdt]
  dsimp only
  rw [none2]
  refine wpAny_updatePart (o := o) ho (h _ ?_)
  have put : Obj.putName k (PyData.keyHash X.w.params k) (.str k s.toks) r o = { o with data := .dict (es.push ⟨PyData.keyHash X.w.params k, .str k s.toks, r⟩) (ep + 1) } := by
    rw [Obj.putName_eq]
    obtain ⟨c, d, dt, sl⟩ := o
    have hdt : dt = .dict es ep := hdt
    subst hdt
    unfold Obj.putNameByArray
    dsimp only
    rw [none1]
  have new : (s.heap.update a (Obj.putName k (PyData.keyHash X.w.params k) (.str k s.toks) r)).get? a = some { o with data := .dict (es.push ⟨PyData.keyHash X.w.params k, .str k s.toks, r⟩) (ep + 1) } := by
    rw [Heap.get?_update_self _ ho (by rw [put]; rfl), put]
  refine d_write (I.tok (s.toks + 1)) (by rw [e]; exact True.intro) (Heap.SameBut.update ..) ⟨_, new⟩ (dk_new (by simp only [List.length_append, List.length_singleton]; omega) hd (kv_snoc rv rel) ⟨_, _, _, new, ex, rfl, fun x hx => ?_, ?_, ?_⟩)
  · rcases Array.mem_push.mp hx with hx | rfl
    · exact hk x hx
    · exact ⟨.inr k, isStr_self k s.toks, rfl⟩
  · rw [Array.toList_push]
    exact pairs_snoc (isStr_self k s.toks) rfl pr
  · rw [List.map_append, List.nodup_append]
    refine ⟨nd, by simp, fun x hx y hy => ?_⟩
    obtain ⟨kv, m, rfl⟩ := List.mem_map.mp hx
    rw [List.map_cons, List.map_nil, List.mem_singleton] at hy
    rw [hy]
    exact keysNe kv m
end
/-- the keywords' dict -/
def kwD (ks : List Str) (zs : List V) : List (Key × V) := (ks.zip zs).map fun p => (.inr p.1, p.2)
section
variable {X : Cx} {pins : List (Addr × Obj)} {σ : L2.St} {a : Addr} {A : Around} {E : Value → Shared → Prop}
theorem d_fill {Q : PUnit → Shared → Prop} : ∀ (ks : List Str) (zs : List V) (ws : List Value) (s : Shared) (H : Hp) (kvs : List (Key × V)), Inv X pins σ H s → H a = some (.dK kvs) → Vals zs ws → zs.length = ks.length → ks.Nodup → (∀ kv ∈ kvs, ∀ k ∈ ks, kv.1 ≠ .inr k) → kvs.length + ks.length ≤ 1000 →
    (∀ s', Inv X pins σ (upd H a (.dK (kvs ++ kwD ks zs))) s' → Q ⟨⟩ s') → wpAny (model X.prog X.w) A (forIn (ks.zip ws) PUnit.unit fun x _ => (nsSet a x.1 x.2 >>= fun _ => pure (ForInStep.yield PUnit.unit))) Q E s
  | [], zs, ws, s, H, kvs, I, e, r, hl, nd, nw, sz, h => by
    rw [List.zip_nil_left, List.forIn_nil]
    refine wpAny_pure (h s ?_)
    unfold kwD
    rw [List.zip_nil_left, List.map_nil, List.append_nil]
    have : upd H a (.dK kvs) = H := by
      funext b
      by_cases hb : b = a
      · subst hb; rw [upd_same, e]
      · rw [upd_ne hb]
    rw [this]; exact I
  | k :: ks, [], ws, s, H, kvs, I, e, r, hl, nd, nw, sz, h => by simp at hl
  | k :: ks, z :: zs, [], s, H, kvs, I, e, r, hl, nd, nw, sz, h => by cases r
  | k :: ks, z :: zs, u :: ws, s, H, kvs, I, e, r, hl, nd, nw, sz, h => by
    cases r with
    | cons r1 r =>
    rw [List.zip_cons_cons, List.forIn_cons]
    rw [List.nodup_cons] at nd
    rw [List.length_cons] at sz
    refine wpAny_bind (wpAny_bind (d_nsSet I e (fun kv m => nw kv m k List.mem_cons_self) (Nat.lt_of_lt_of_le (by omega : kvs.length < 1000) (by decide)) r1 fun s1 I1 => wpAny_pure ?_))
    refine d_fill ks zs ws s1 _ _ I1 upd_same r (by simpa using hl) nd.2 (fun kv m k2 hk2 => ?_) (by rw [List.length_append]; show _ + 1 + _ ≤ _; omega) fun s2 I2 => h s2 ?_
    · rcases List.mem_append.mp m with m | m
      · exact nw kv m k2 (List.mem_cons_of_mem _ hk2)
      · rw [List.mem_singleton.mp m]
        intro q
        exact nd.1 (by rw [show k = k2 from Sum.inr.inj q]; exact hk2)
    · have e1 : kvs ++ [(Sum.inr k, z)] ++ kwD ks zs = kvs ++ kwD (k :: ks) (z :: zs) := by
        rw [List.append_assoc]; rfl
      have e2 : upd (upd H a (.dK (kvs ++ [(Sum.inr k, z)]))) a (.dK (kvs ++ [(Sum.inr k, z)] ++ kwD ks zs)) = upd H a (.dK (kvs ++ kwD (k :: ks) (z :: zs))) := by
        rw [e1]
        funext b
        by_cases hb : b = a
        · subst hb; rw [upd_same, upd_same]
        · rw [upd_ne hb, upd_ne hb, upd_ne hb]
      rw [e2] at I2
      exact I2
end
/-! ### a def's promise where binding itself makes something -/
structure FnB (P : Program) (w : World) (K : PySem.W.Frag) (mg : Str → Option Value) (base : Heap) (CX : CXT) (g : Bool) (k : Nat) (f : Addr) (fd : FuncData) (ps : List Str) (sp : Sp) : Prop where
  len : ∀ vs H Q E, sp vs H Q E → vs.length = ps.length
  run : ∀ (A : Around) (outer : List Env) (s : Shared) (H : Hp) (args : Args) (vs : List V) (Q : VK) (E : XK) (G : Shared → Prop) (R : Result → Shared → Prop), Room k A → Clr g A → K.In s.heap → (∀ s1, G s1 → Env0 P w K mg base A outer s1 H) →
    (∀ Q' E', (∀ s1 us, G s1 → Vals vs us → Q' (ps.zip us) s1) → wpAny (model P w) A.in1 (bindArgs fd args) Q' E' s) → (∀ s1, G s1 → ∀ res s', CR CX outer P w H s1 Q E res s' → R res s') → sp vs H Q E → codeAny (model P w) A (.call (.ref f) args) R s
theorem fnB_of {P : Program} {w : World} {K : PySem.W.Frag} {mg : Str → Option Value} {base : Heap} {CX : CXT} {g : Bool} {k : Nat} {f : Addr} {ps : List Str} {sp : Sp}
    {name qual : Str} {params : Arguments} {body : List Stmt} {scope : Scope} {dV kV doc pm cdv ct oc : Value} {an od : Option Addr} {osl : Array (Option Value)} {N : List Str}
    (lk : K.lookup f = some ⟨oc, od, .func (PySem.W.fnOf name qual params body scope dV kV doc pm an cdv ct), osl⟩) (hcd : PySem.W.codeIn K cdv qual = true) (S : FnScope N ps scope)
    (len : ∀ vs H Q E, sp vs H Q E → vs.length = ps.length)
    (hb : ∀ (A : Around) (outer : List Env) (s : Shared) (H : Hp) (vs : List V) (Q : VK) (E : XK), Room k (A.deeper (envOfC qual scope s.heap.objs.size f cdv)) → Clr g (A.deeper (envOfC qual scope s.heap.objs.size f cdv)) → sp vs H Q E →
      ∃ t, PSs (cxOf CX P w K mg base N qual scope f cdv A outer s H E) body t ∧ t { nx := fun _ H' => Q .non H', rt := Q } (start N vs) H) :
    FnB P w K mg base CX g (k + 1) f (PySem.W.fnOf name qual params body scope dV kV doc pm an cdv ct) ps sp := by
  refine ⟨len, ?_⟩
  intro A outer s0 H args vs Q E G R room clr kin0 e0G bnd hR want
  have L := len _ _ _ _ want
  refine codeAny_call_function room.depth (kin0 _ _ lk) rfl S.co S.gen rfl (PySem.W.codeRec_of kin0 hcd) (bnd _ _ fun s us hG rel => ?_)
  have e0 := e0G s hG
  have nolim : s.heap.NoLimit := e0.mod.nolimit.keeps (fun b o e => (e0.bs b o e).1)
  have sorts : ∀ y ∈ ps.zip us, scope.names.lookup y.1 = some .local ∨ (scope.names.lookup y.1 = some .cell ∧ ((cellsFrom (s.heap.objs.size + 1) scope.names []).lookup y.1).isSome = true) := by
    rintro ⟨n, v⟩ hy
    have hp := S.par n (List.of_mem_zip hy).1
    exact hp.imp id fun q => ⟨q, PySem.W.cellsFrom_some _ _ _ (.inl q)⟩
  refine wpAny_newFunctionEnv_cells S.kind sorts fun env he s1 x => ?_
  cases he
  obtain ⟨t, ht, hq⟩ := hb A outer s H vs Q E (room.deeper _) (clr_deeper clr) want
  refine ⟨nolim.keeps x.toInCall.keep, codeAny_func (wpAny_mono (ht.run [] s1 (start N vs) H _ (inv_start S room.hd e0 L rel x) hq) (fun fl s' hs => ?_) (fun e s' z => wpAny_mono z (fun _ s2 y => hR s hG (.error e) s2 y) (fun e2 s2 y => hR s hG (.error e2) s2 y)))⟩
  match fl, hs with
  | .ret u, hs => obtain ⟨v, τ, G', J, rv, q⟩ := hs; exact hR s hG (.ok (.ret u)) s' ⟨v, G', J.os, J.bare, J.base, J.hok, rv, q⟩
  | .next, hs => obtain ⟨τ, G', J, q⟩ := hs; exact hR s hG (.ok (.ret .none)) s' ⟨.non, G', J.os, J.bare, J.base, J.hok, rfl, q⟩
  | .brk, hs => obtain ⟨_, _, _, q⟩ := hs; exact q.elim
  | .cont, hs => obtain ⟨_, _, _, q⟩ := hs; exact q.elim
section
variable {P : Program} {w : World} {K : PySem.W.Frag} {mg : Str → Option Value} {base : Heap} {g : Bool} {k : Nat} {f : Addr} {fd : FuncData} {ps N : List Str} {sp : Sp} {x qual : Str} {args : Arguments} {body : List Stmt} {sc : Scope} {dvs : List V} {kws : List (Str × V)}
theorem funB (F : FunD K x qual args body sc dvs kws f fd) (S : FnScope N ps sc) (len : ∀ vs H Q E, sp vs H Q E → vs.length = ps.length)
    (hb : ∀ (cdv : Value) (A : Around) (outer : List Env) (s : Shared) (H : Hp) (vs : List V) (Q : VK) (E : XK), Room k (A.deeper (envOfC qual sc s.heap.objs.size f cdv)) → Clr g (A.deeper (envOfC qual sc s.heap.objs.size f cdv)) → sp vs H Q E →
      ∃ t, PSs (cxOf CX0 P w K mg base N qual sc f cdv A outer s H E).nox body t ∧ t { nx := fun _ H' => Q .non H', rt := Q } (start N vs) H) : FnB P w K mg base CX0 g (k + 1) f fd ps sp := by
  obtain ⟨oc, od, dV, kV, doc, pm, an, cdv, ct, osl, e, lk, hcd, _⟩ := F.ex
  subst e
  refine fnB_of lk hcd S len fun A outer s H vs Q E hr hg q => ?_
  obtain ⟨t, h1, h2⟩ := hb cdv A outer s H vs Q E hr hg q
  exact ⟨t, h1.nox, h2⟩
end
/-- how keywords ks bind behind n values: what is left of the values ds of the defaults, then the dict of the keywords -/
structure KwB (K : PySem.W.Frag) (fd : FuncData) (ps ks : List Str) (n : Nat) (dvs : List V) : Prop where
  ex : ∃ ds : List Value, Vals dvs ds ∧ ∀ (s : Shared) (us ws : List Value) (M : Model) (A : Around) (Q : List (Str × Value) → Shared → Prop) (E : Value → Shared → Prop), K.In s.heap → us.length = n → ws.length = ks.length →
    wpAny M A (do
      let d ← alloc { cls := .type "dict", data := .dict #[] }
      let _ ← forIn (ks.zip ws) PUnit.unit fun x _ => (nsSet d x.1 x.2 >>= fun _ => pure (ForInStep.yield PUnit.unit))
      pure (ps.zip (us ++ ds ++ [.ref d]))) Q E s → wpAny M A (bindArgs fd ⟨us, ks.zip ws⟩) Q E s
theorem kwB_of {K : PySem.W.Frag} {x qual : Str} {params : Arguments} {body : List Stmt} {scope : Scope} {dvs : List V} {kws : List (Str × V)} {f : Addr} {fd : FuncData} {ps ks : List Str} (F : FunD K x qual params body scope dvs kws f fd) (n j : Nat) (hd : dvs ≠ [])
    (h : ∀ (T : Addr) (kV doc pm : Value) (an : Option Addr) (cdv ct : Value) (us its ws : List Value), us.length = n → its.length = dvs.length → ws.length = ks.length →
      ∃ k, bindArgs (PySem.W.fnOf x qual params body scope (.ref T) kV doc pm an cdv ct) ⟨us, ks.zip ws⟩ = seqItems? (.ref T) >>= k ∧ k (some its.toArray) = (do
        let d ← alloc { cls := .type "dict", data := .dict #[] }
        let _ ← forIn (ks.zip ws) PUnit.unit fun x _ => (nsSet d x.1 x.2 >>= fun _ => pure (ForInStep.yield PUnit.unit))
        pure (ps.zip (us ++ its.drop j ++ [.ref d])))) : KwB K fd ps ks n (dvs.drop j) := by
  obtain ⟨oc, od, dV, kV, doc, pm, an, cdv, ct, osl, rfl, lk, hcd, hD, hK⟩ := F.ex
  rcases hD with ⟨e, _⟩ | ⟨_, T, o, its, m, rfl, lT, oT, rT⟩
  · exact absurd e hd
  · refine ⟨its.drop j, rT.drop j, fun s us ws M A Q E X l1 l2 want => ?_⟩
    obtain ⟨k, e1, e2⟩ := h T kV doc pm an cdv ct us its ws l1 rT.length.symm l2
    rw [e1]
    refine wpAny_bind (wpAny_seqItems (X _ _ lT) oT ?_)
    rw [e2]
    exact want
/-- C.m(k = v, ..): C's class method m with a parameter for further keywords -/
def tCMethK (C : Addr) (ks : List Str) (sp : Sp) (dvs : List V) (E : XK) (ta : TE) (tk : TA) : TE := fun σ H Q => ta σ H fun x H1 => x = .ref C ∧ tk σ H1 fun zs H2 => zs.length = ks.length ∧ ks.length ≤ 1000 ∧
  ∀ d, H2 d = none → sp (.ref C :: dvs ++ [.ref d]) (upd H2 d (.dK (kwD ks zs))) Q E
section
variable {X : Cx} {CX : CXT} {g : Bool} {k : Nat} {f C p : Addr} {fd : FuncData} {ps ks : List Str} {sp : Sp} {dvs : List V} {E : XK} {m : Str} {pos apos : Pos} {o : Expr} {kws : List Keyword} {ta : TE} {tk : TA} {pl : Sem Bool}
theorem run_kw {pins : List (Addr × Obj)} {σ : L2.St} {H : Hp} {s : Shared} {Q : VK} {us ws : List Value} {vs zs : List V} {n : Nat} (F : FnB X.prog X.w X.K X.mg X.base CX g k f fd ps sp) (hr : Room k X.A) (hg : Clr g X.A) (hb : KwB X.K fd ps ks n dvs) (nd : ks.Nodup)
    (hx : Passes CX X E) (I : Inv X pins σ H s) (r : Vals vs us) (rz : Vals zs ws) (l1 : us.length = n) (l2 : zs.length = ks.length) (sz : ks.length ≤ 1000) (h : ∀ d, H d = none → sp (vs ++ dvs ++ [.ref d]) (upd H d (.dK (kwD ks zs))) Q E) :
    codeAny (model X.prog X.w) X.A (.call (.ref f) ⟨us, ks.zip ws⟩) (fun res s' => match res with
      | .ok (.ret u) => EP X pins σ Q u s'
      | .ok _ => False
      | .error e => X.xe e s') s := by
  obtain ⟨ds, rd, bind⟩ := hb.ex
  have hn : H s.heap.objs.size = none := I.hok.fresh (Nat.le_refl _)
  refine F.run X.A X.stack s _ _ _ Q E (fun s1 => Inv X pins σ (upd H s.heap.objs.size (.dK (kwD ks zs))) s1) _ hr hg I.kIn (fun s1 J => ⟨J.env0.frames, J.env0.mod, J.env0.bs, J.env0.bsz, J.env0.funs, J.env0.frf, J.env0.hok, J.env0.bare⟩) (fun Q' E' want => ?_) (fun s1 J res s' q => ?_) (h _ hn)
  · refine bind s us ws _ _ _ _ I.kIn l1 (rz.length.symm.trans l2) (wpAny_bind (wpAny_alloc (wpAny_bind ?_)))
    have I1 := I.laid (a := s.heap.objs.size) (o := .dK []) (t' := s.toks) (fun _ _ q => Heap.get?_push_of_some _ q) (Nat.le_refl _) (dk_empty s.heap I.big)
    refine d_fill ks zs ws _ _ [] I1 upd_same rz l2 nd (fun kv m => nomatch m) (by simpa using sz) fun s2 I2 => wpAny_pure (want s2 _ ?_ ((r.append rd).append (.cons rfl .nil)))
    have e2 : upd (upd H s.heap.objs.size (.dK [])) s.heap.objs.size (.dK ([] ++ kwD ks zs)) = upd H s.heap.objs.size (.dK (kwD ks zs)) := by
      funext b
      by_cases hb : b = s.heap.objs.size
      · subst hb; rw [upd_same, upd_same]; rfl
      · rw [upd_ne hb, upd_ne hb, upd_ne hb]
    rw [e2] at I2
    exact I2
  · match res, q with
    | .error er, q => exact hx pins σ _ s1 er s' (J.wish _) q
    | .ok (.ret u), q =>
      obtain ⟨v, H', I3, rv, q3⟩ := J.after q
      exact ⟨v, H', I3, rv, q3⟩
    | .ok .next, q => exact q.elim
    | .ok .brk, q => exact q.elim
    | .ok .cont, q => exact q.elim
theorem run_kwM {pins : List (Addr × Obj)} {σ : L2.St} {H : Hp} {s : Shared} {Q : VK} {q : Addr} {us ws : List Value} {vs zs : List V} {n : Nat} (F : FnB X.prog X.w X.K X.mg X.base CX g k f fd ps sp) (hr : Room k X.A) (hg : Clr g X.A) (hb : KwB X.K fd ps ks (n + 1) dvs) (nd : ks.Nodup)
    (hx : Passes CX X E) (I : Inv X ((q, PySem.W.methodObj (.ref f) (.ref C)) :: pins) σ H s) (r : Vals vs us) (rz : Vals zs ws) (l1 : us.length = n) (l2 : zs.length = ks.length) (sz : ks.length ≤ 1000) (h : ∀ d, H d = none → sp (.ref C :: vs ++ dvs ++ [.ref d]) (upd H d (.dK (kwD ks zs))) Q E) :
    wpAny (model X.prog X.w) X.A (call (.ref q) us (ks.zip ws)) (EP X pins σ Q) X.xe s := by
  have z : wpAny (model X.prog X.w) X.A (call (.ref q) us (ks.zip ws)) (EP X ((q, PySem.W.methodObj (.ref f) (.ref C)) :: pins) σ Q) X.xe s := by
    refine wpAny_call (PySem.W.method_call (ClX.pin_at I) (codeAny_mono (run_kw (us := .ref C :: us) (vs := .ref C :: vs) F hr hg hb nd hx I (.cons rfl r) rz (congrArg Nat.succ l1) l2 sz h) fun res s' y => ?_))
    match res, y with
    | .error er, y => exact y
    | .ok (.ret u), y => exact y
    | .ok .next, y => exact y.elim
    | .ok .brk, y => exact y.elim
    | .ok .cont, y => exact y.elim
  exact thn z fun _ _ y => ClX.unpinE y
theorem pg_cmethK0 (he : PE X o ta) (r : ClX.CRead X.K C (.type "type")) (c : ClX.CMet X.K C (.type "type") m p f) (F : FnB X.prog X.w X.K X.mg X.base CX g k f fd ps sp) (hr : Room k X.A) (hg : Clr g X.A) (hb : KwB X.K fd ps ks 1 dvs) (nd : ks.Nodup)
    (hx : Passes CX X E) (hkw : PK X kws tk) (hall : (backToKw pos (keywordEach kws X.env)).all (·.1.isSome) = true := by rfl) (hks : (backToKw pos (keywordEach kws X.env)).filterMap (·.1) = ks := by rfl)
    (hpl : ((backTo pos (starEach [] X.env)).any (·.1) || (backToKw pos (keywordEach kws X.env)).any (·.1.isNone)) = false := by rfl)
    (ht : eval (.Call (.Attribute o m apos) [] kws pos) X.env = (do
      let ov ← eval o X.env
      standAt apos.atName
      let (f, first) ← holding [ov] (getMethod ov m pl)
      callWith pos f first (backTo pos (starEach [] X.env)) (backToKw pos (keywordEach kws X.env))) := by rfl) :
    PE X (.Call (.Attribute o m apos) [] kws pos) (tCMethK C ks sp dvs E ta tk) := by
  constructor
  intro pins s σ H Q I h
  refine PySem.W.methodCall_KW (pl := pl) (thn (he.run pins s σ H _ I h) ?_) ht
  rintro u s1 ⟨x, H1, I1, rx, rfl, q⟩
  obtain rfl : u = Value.ref C := rx
  refine ClX.getmethcm_ok I1 r c fun s2 I2 => ?_
  refine PySem.W.callWith_of (P := PySem.W.MethP X.K s1.heap.objs.size f (.ref C)) hpl (PySem.W.keeps_M c.fi) (evalArgs_kw2_nil hall (thn (hkw.run pos _ s2 σ H1 _ I2 q) ?_))
  rintro ws s3 ⟨zs, H2, I3, rz, l2, sz, q2⟩
  rw [hks]
  exact ⟨⟨ClX.pin_at I3, I3.kIn⟩, run_kwM (us := []) (vs := []) (n := 0) F hr hg hb nd hx I3 .nil rz rfl l2 sz q2⟩
/-- C.m(a, .., k = v, ..) -/
def tCMethN (C : Addr) (n : Nat) (ks : List Str) (sp : Sp) (dvs : List V) (E : XK) (ta : TE) (t tk : TA) : TE := fun σ H Q => ta σ H fun x H1 => x = .ref C ∧ t σ H1 fun vs H2 => tk σ H2 fun zs H3 => vs.length = n ∧ zs.length = ks.length ∧ ks.length ≤ 1000 ∧
  ∀ d, H3 d = none → sp (.ref C :: vs ++ dvs ++ [.ref d]) (upd H3 d (.dK (kwD ks zs))) Q E
theorem pg_cmethN {n : Nat} {e : Expr} {es : List Expr} {t : TA} (he : PE X o ta) (r : ClX.CRead X.K C (.type "type")) (c : ClX.CMet X.K C (.type "type") m p f) (F : FnB X.prog X.w X.K X.mg X.base CX g k f fd ps sp) (hr : Room k X.A) (hg : Clr g X.A) (hb : KwB X.K fd ps ks (n + 1) dvs) (nd : ks.Nodup)
    (hx : Passes CX X E) (ha : PA X (e :: es) t) (hkw : PK X kws tk) (hall : (backToKw pos (keywordEach kws X.env)).all (·.1.isSome) = true := by rfl) (hks : (backToKw pos (keywordEach kws X.env)).filterMap (·.1) = ks := by rfl)
    (hst : starEach (e :: es) X.env = (false, eval e X.env) :: starEach es X.env := by rfl)
    (hpl : ((backTo pos (starEach (e :: es) X.env)).any (·.1) || (backToKw pos (keywordEach kws X.env)).any (·.1.isNone)) = false := by rfl)
    (ht : eval (.Call (.Attribute o m apos) (e :: es) kws pos) X.env = (do
      let ov ← eval o X.env
      standAt apos.atName
      let (f, first) ← holding [ov] (getMethod ov m pl)
      callWith pos f first (backTo pos (starEach (e :: es) X.env)) (backToKw pos (keywordEach kws X.env))) := by rfl) :
    PE X (.Call (.Attribute o m apos) (e :: es) kws pos) (tCMethN C n ks sp dvs E ta t tk) := by
  constructor
  intro pins s σ H Q I h
  refine PySem.W.methodCall_KW (pl := pl) (thn (he.run pins s σ H _ I h) ?_) ht
  rintro u s1 ⟨x, H1, I1, rx, rfl, q⟩
  obtain rfl : u = Value.ref C := rx
  refine ClX.getmethcm_ok I1 r c fun s2 I2 => ?_
  refine PySem.W.callWith_of (P := PySem.W.MethP X.K s1.heap.objs.size f (.ref C)) hpl (PySem.W.keeps_M c.fi) (evalArgs_kw2 hall (thn (ha.run pos _ s2 σ H1 _ I2 q) ?_) hst)
  rintro us s3 ⟨vs, H2, I3, rv, q3⟩
  refine thn (hkw.run pos _ s3 σ H2 _ I3 q3) ?_
  rintro ws s4 ⟨zs, H3, I4, rz, l1, l2, sz, q4⟩
  rw [hks]
  exact ⟨⟨ClX.pin_at I4, I4.kIn⟩, run_kwM (us := us) (vs := vs) (n := n) F hr hg hb nd hx I4 rv rz (rv.length.symm.trans l1) l2 sz q4⟩
end
/-! ### a local name's class is called -/
section
variable {X : Cx} {CX : CXT} {g : Bool} {k : Nat} {f C : Addr} {fd : FuncData} {ps : List Str} {sp : Sp} {dvs : List V} {ds : List Value} {E : XK} {x : Str} {p pos : Pos} {e : Expr} {es : List Expr} {t : TA} {i : Nat}
/-- x(a, ..), x a local name that holds the class C -/
def tMakeL (i : Nat) (C : Addr) (sp : Sp) (dvs : List V) (E : XK) (t : TA) : TE := fun σ H Q => σ[i]? = some (some (.ref C)) ∧ tMake C sp dvs E t σ H Q
theorem pg_makeL (hv : PE X (.Name x p) (tVar i)) (M : Mk X.K C f) (F : FnG X.prog X.w X.K X.mg X.base CX g k f fd ps sp) (hr : Room (k + 1) X.A) (hg : Clr g X.A) (hb : Binds X.K fd ps ds) (hd : Vals dvs ds) (hx : Passes CX X E)
    (ha : PA X (e :: es) t) (he : starEach (e :: es) X.env = (false, eval e X.env) :: starEach es X.env := by rfl)
    (hpl : (backTo pos (starEach es X.env)).any (·.1) = false := by rfl) : PE X (.Call (.Name x p) (e :: es) [] pos) (tMakeL i C sp dvs E t) := by
  constructor
  intro pins s σ H Q I h
  obtain ⟨hσ, h⟩ := h
  refine wpAny_Call_Name_kw (thn (hv.run pins s σ H (fun y H1 => y = .ref C ∧ tMake C sp dvs E t σ H1 Q) I ⟨.ref C, hσ, rfl, h⟩) ?_)
  rintro u s0 ⟨y, H0, I0, ry, rfl, h⟩
  obtain rfl : u = Value.ref C := ry
  refine PySem.W.callWith_K (h₀ := X.base) I.ok.mod.kin M.kp (thn (ha.run pos pins s0 σ H0 _ I0 h) ?_) he hpl
  rintro us s1 ⟨vs, H1, I1, r, q⟩
  exact ⟨I1.kIn, run_mk M F hr hg hb hd hx I1 r q⟩
end
/-! ### own operators: any built-in kind at the right -/
def rOpX (K : PySem.W.Frag) (C : Addr) (Ts : List String) (sp : Sp) (E : XK) : R2 := fun x y H Q => ∃ a, x = .ref a ∧ InsAt C H a ∧ (∃ T, TyX K H y (.type T) ∧ T ∈ Ts) ∧ sp [x, y] H Q E
section
open PySem.W
variable {prog : Program} {w : World} {A : Around} {E : Value → Shared → Prop} {s : Shared} {K : Frag} {x C L f : Addr} {T : String} {h₀ : Heap} {m : Str → Option Value} {ox : Obj} {od : Option Obj}
theorem bin_kind {op : Operator} {b : Value} {fo ro : Option Value} {Q : Value → Shared → Prop} (F : PyProof.Rows.Fr h₀ L s.heap m) (X₀ : K.In h₀) (I : PySem.W.InstAt s.heap x ox C od)
    (tb : Looks (model prog w) s.heap (typeOf b) (.type T)) (hc : selfFirst K C = true) (hs : findIn K (.ref C) (PySem.dunder op.info.2) = some (some (.ref f))) (hf : isFn K (.ref f) = true)
    (hr : findIn K (.ref C) (dunderR op.info.2) = some none) (h1 : findIn K (.type T) (PySem.dunder op.info.2) = some fo) (h2 : findIn K (.type T) (dunderR op.info.2) = some ro) (hsub : subIn K (.type T) (.ref C) = some false)
    (h : wpAny (model prog w) A (call (.ref f) [.ref x, b]) (PySem.W.CmpBack Q) E s) : wpAny (model prog w) A (binaryOp op (.ref x) b) Q E s := by
  have X := X₀.keeps F.keep
  obtain ⟨cd, rest, hcd, hm⟩ := ksp_first hc
  rcases hi : op.info with ⟨sym, nm'⟩
  rw [hi] at hs hr h1 h2
  dsimp only at hs hr h1 h2
  have one := ksp_try X I hs hf h
  obtain ⟨hh, g, d, tt, os⟩ := s
  have T1 : Looks (model prog w) hh (typeOf (.ref x)) (.ref C) := I.type
  have T2 : Looks (model prog w) hh (typeOf b) (.type T) := tb
  have T3 : Looks (model prog w) hh (fillsNumberSlot (.ref C) nm') true := fills_K X hcd hm hs
  have T4 := ksp_fillsT (M := model prog w) X h1 h2
  have T5 : Looks (model prog w) hh (isSubtype (.type T) (.ref C)) false := looks_subIn X hsub
  have T6 : Looks (model prog w) hh (numberSlotInPython (.ref C) nm') true := ksp_inPy X hs hr (.inl rfl)
  have T7 : Looks (model prog w) hh (numberSlotInPython (.type T) nm') false := Looks.of_pure rfl
  have T8 : Looks (model prog w) hh (typeLookup (.type T) (dunderR nm')) ro := looks_findIn X h2
  generalize ((fo.isSome && !isSeqSlot fo) || (ro.isSome && !isSeqSlot ro)) = right at T4
  have ne : (Value.ref C == Value.type T) = false := Bool.eq_false_iff.mpr fun q => by cases beq_iff_eq.mp q
  simp only [binaryOp, hi]
  refine wpAny_holding (wpAny_bind ?_)
  unfold binaryOp1
  refine wpAny_bind (T1.at (wpAny_bind (T2.at (wpAny_bind (T3.at ?_)))))
  simp only [ne, Bool.false_eq_true, if_false]
  cases right <;>
  · ksp_lk
    refine wpAny_mono one (fun r s' z => ?_) fun _ _ e => e
    obtain ⟨v, rfl, q⟩ := z
    ksp_lk
    exact q
end
section
variable {X : Cx} {CX : CXT} {g : Bool} {k : Nat} {f C : Addr} {fd : FuncData} {ps : List Str} {sp : Sp} {E : XK} {Ts : List String}
theorem op_ownX {op : Operator} (O : OpOwn X.K C op.info.2 f Ts) (F : FnG X.prog X.w X.K X.mg X.base CX g k f fd ps sp) (hr : Room k X.A) (hg : Clr g X.A) (hb : Binds X.K fd ps []) (hx : Passes CX X E) : OpR X (binaryOp op) (rOpX X.K C Ts sp E) := by
  intro pins s σ H x y v u Q I rx ry h
  obtain ⟨a, rfl, ⟨dx, fs, ea⟩, ⟨T, ty, hT⟩, q⟩ := h
  obtain rfl : v = Value.ref a := rx
  obtain ⟨ox, od, J⟩ := inst_of I ea
  obtain ⟨m, Fr0⟩ := I.fr
  obtain ⟨⟨fo, h1⟩, ⟨ro, h2⟩, h3⟩ := O.ts T hT
  obtain ⟨P0, Z, p, _⟩ := kit_of I ry ty
  refine bin_kind Fr0 I.ok.mod.kin J (Z.ty _ _ I.kIn p) O.first O.at_ O.fn O.refl h1 h2 h3 ?_
  exact wpAny_mono (run_gX (us := [.ref a, u]) (vs := [.ref a, y]) (dvs := []) F hr hg hb .nil hx I (.cons rfl (.cons ry .nil)) q) (fun w s' z => by
      obtain ⟨z1, H', I', r', q'⟩ := z
      exact not_ni r' ⟨z1, H', I', r', q'⟩) fun _ _ z => z
/-- either rule -/
theorem op_orR {op : Value → Value → Sem Value} {r1 r2 : R2} (h1 : OpR X op r1) (h2 : OpR X op r2) : OpR X op (fun x y H Q => r1 x y H Q ∨ r2 x y H Q) := fun pins s σ H x y v u Q I rx ry h =>
  h.elim (h1 pins s σ H x y v u Q I rx ry) (h2 pins s σ H x y v u Q I rx ry)
theorem cr_or {f : Value} {r1 r2 : List V → Hp → VK → Prop} (h1 : CallR X f r1) (h2 : CallR X f r2) : CallR X f (fun xs H Q => r1 xs H Q ∨ r2 xs H Q) := fun pins s σ H xs us Q I r h =>
  h.elim (h1 pins s σ H xs us Q I r) (h2 pins s σ H xs us Q I r)
end
end LL
/-! LY2: list comprehensions over a dict's items, keys, values, with tests; stars in displays; dict(pairs). -/
namespace LL
open PySem PySem.Spec PyProof.Rows L2
section
variable {σ : L2.St} {H H1 : Hp} {Q : VK} {QA : List V → Hp → Prop} {g : TG} {tt : TT} {te : TE} {ta : TA} {is : List Nat} {K : PySem.W.Frag}
theorem u_lcI {d : Addr} {o : Obj} {kvs : List (Key × V)} (q : ∀ D H0, H1 D = none → Same H1 H0 → H0 D = some (.lst []) → (∀ b, b ≠ D → H0 b = H1 b) → ∃ Pv : Nat → Hp → Prop, Pv 0 H0 ∧ (∀ i H, i ≤ kvs.length → Pv i H → H d = some (.frz o (.dK kvs))) ∧
    (∀ i k v T H H2, kvs[i]? = some (k, v) → Pv i H → H T = none → Same H H2 → H2 T = some (.tup [kV k, v]) → (∀ b, b ≠ T → H2 b = H b) → g (.ref T) (wipe σ is) H2 fun σ2 H3 => wipe σ2 is = wipe σ is ∧ tt σ2 H3 fun b H4 =>
      if b = true then te σ2 H4 (Grow D (Pv (i + 1))) else Pv (i + 1) H4) ∧ ∀ H, Pv kvs.length H → Q (.ref D) H) : LcK g tt te is σ Q (Iti d o kvs) H1 := by
  intro D hD
  obtain ⟨Pv, h0, hl, hs, hd⟩ := q D _ hD (same_upd hD) upd_same fun b hb => upd_ne hb
  refine ⟨fun i m H => m = kvs.length - i ∧ i ≤ kvs.length ∧ Pv i H, ⟨kvs.length, by simp, Nat.zero_le _, h0⟩, ?_⟩
  rintro i m H ⟨rfl, hi, p⟩
  have st := hl i H hi p
  by_cases hlt : i < kvs.length
  · refine .inr ⟨⟨st, hlt⟩, Pv (i + 1), fun H' p' => ⟨kvs.length - (i + 1), by omega, rfl, hlt, p'⟩, fun x H' y => ?_⟩
    obtain ⟨T, k, v, e, rfl, hT, rfl⟩ := y
    exact hs i k v T H _ e p hT (same_upd hT) upd_same fun b hb => upd_ne hb
  · have e : i = kvs.length := by omega
    subst e
    exact .inl ⟨⟨st, Nat.le_refl _⟩, hd H p⟩
theorem r_star (q : te σ H fun x H1 => ∃ p xs, x = V.ref p ∧ (SqT K H1 p xs ∨ SqL K H1 p xs) ∧ ta σ H1 fun ys H2 => QA (xs ++ ys) H2) : StX.tStar K te ta σ H QA := q
theorem q_starL {p : Addr} {xs : List V} {R : List V → Prop} (h : H p = some (.lst xs)) (q : R xs) : ∃ p' ys, V.ref p = V.ref p' ∧ (SqT K H p' ys ∨ SqL K H p' ys) ∧ R ys := ⟨p, xs, rfl, .inr (.inl (.inl h)), q⟩
end
/-! ### == of two dicts whose values are data -/
open PySem.Calls in
def rEqDD (K : PySem.W.Frag) : R2 := fun x y H Q => ∃ a b ka kb, ∃ e : Key → Bool, x = .ref a ∧ y = .ref b ∧ H a = some (.dK ka) ∧ H b = some (.dK kb) ∧
  (∀ k v u, (k, v) ∈ ka → valV kb k = some u → ∃ p q d1 d2, v = .ref p ∧ u = .ref q ∧ Dp K H v d1 ∧ Dp K H u d2 ∧ SeqAt.shaped d1 = true ∧ SeqAt.shaped d2 = true ∧ e k = PyData.eqv d1 d2 ∧ (p = q → e k = true)) ∧ Q (.bl (eqK ka kb e)) H
section
open PySem.Calls
variable {X : Cx} {K' : PySem.W.Frag}
theorem op_eqDD (hr : Room 1 X.A) : OpR X (compareOp .Eq) (rEqDD X.K) := by
  intro pins s σ H x y v u Q I rx ry h
  obtain ⟨a, b, ka, kb, e, rfl, rfl, ha, hb2, el, q⟩ := h
  obtain rfl : v = Value.ref a := rx
  obtain rfl : u = Value.ref b := ry
  have hr1 : Room 0 X.A.in1 := hr.in1
  obtain ⟨za, na, va, ra, oa, es, ep, ga, xa, da, ksa, pa, nda⟩ := dk_of I.hok ha
  obtain ⟨zb, nb, vb, rb, ob, es2, ep2, gb, xb, db, ksb, pb, ndb⟩ := dk_of I.hok hb2
  show wpAny (model X.prog X.w) X.A (richCompare .Eq (.ref a) (.ref b)) (EP X pins σ Q) X.xe s
  have ta : s.TypeIs (.ref a) "dict" := ⟨oa, ga, xa.1⟩
  have tb : s.TypeIs (.ref b) "dict" := ⟨ob, gb, xb.1⟩
  refine wpAny_richCompare_same_room (op := .Eq) ta tb PySem.F.slot_dict_eq (wpAny_call_entry PySem.F.slot_dict_eq ta PySem.F.entry_dict_eq ?_ (PySem.F.args_dict_eq_2 _ _)) hr.units0
  show wpAny _ _ (Builtin.Dict.dictSlotArgs "__eq__" ⟨[.ref a, .ref b], []⟩ >>= _) _ _ s
  unfold Builtin.Dict.dictSlotArgs
  refine wpAny_bind (wpAny_bind (wpAny_notOrdered_dict ta (wpAny_pure ?_)))
  refine wpAny_bind (wpAny_isInstance (T := "dict") tb PySem.F.sub_dict_dict ?_)
  simp only [Bool.not_true, Bool.false_eq_true, if_false]
  refine wpAny_bind (wpAny_pure (wpAny_bind (wpAny_pure (wpAny_bind ?_))))
  refine pairs_walk (P := fun s' => s' = s) (e := e) (va := va) (vb := vb) na nb da db ksa ksb pa pb (fun s' J => J ▸ ga) (fun s' J => J ▸ gb) rfl (fun key v y s' hm hv J => ?_) (fun s' J => ?_)
  · subst J
    obtain ⟨v2, hm2, rv⟩ := kv_mem ra hm
    have rel2 := rb.val key
    rw [hv] at rel2
    have hu2 : ∃ u2, valV kb key = some u2 ∧ RelV u2 y := by
      cases hc : valV kb key with
      | none => rw [hc] at rel2; exact absurd rel2 (fun z => nomatch z)
      | some u2 => rw [hc] at rel2; exact ⟨u2, rfl, rel2⟩
    obtain ⟨u2, hu2, ru⟩ := hu2
    obtain ⟨p, q2, d1, d2, rfl, rfl, dp1, dp2, sh1, sh2, ek, self_⟩ := el key v2 u2 hm2 hu2
    obtain ⟨as, r1⟩ := Dp.reads I d1 _ v dp1 rv
    obtain ⟨bs, r2⟩ := Dp.reads I d2 _ y dp2 ru
    obtain rfl : v = Value.ref p := rv
    obtain rfl : y = Value.ref q2 := ru
    unfold eqBool
    refine wpAny_holding ?_
    by_cases hpq : p = q2
    · rw [if_pos (by rw [hpq]; exact beq_self_eq_true _)]
      exact wpAny_bind (wpAny_rule (wpAny_pure ⟨(self_ hpq).symm, rfl⟩))
    · rw [if_neg (fun z => hpq (Value.ref.inj (beq_iff_eq.mp z)))]
      refine wpAny_bind ?_
      show wpAny (model X.prog X.w) X.A.in1 (compareOp .Eq (.ref p) (.ref q2)) _ _ _
      refine SeqAt.compareEq_shaped r1 r2 sh1 sh2 hr1.units ?_
      exact wpAny_truthy_bool ⟨ek.symm, rfl⟩
  · subst J
    have el2 : (va.length == vb.length && va.all fun kv => (valueAt vb kv.1).isSome && e kv.1) = eqK ka kb e := by
      rw [kv_all rb ra, ← ra.length, ← rb.length]
      rfl
    rw [el2]
    refine wpAny_pure ⟨_, rfl, ?_, ?_⟩
    · exact fun z => nomatch z
    · have sh : Value.bool (eqK ka kb e == true) = Value.bool (eqK ka kb e) := by cases eqK ka kb e <;> rfl
      first
        | exact ⟨.bl _, H, I, rfl, q⟩
        | (rw [sh]; exact ⟨.bl _, H, I, rfl, q⟩)
        | (simp only [beq_true]; exact ⟨.bl _, H, I, rfl, q⟩)
theorem op_eqDDK (hr : Room 1 X.A) (hK : X.K = K' := by rfl) : OpR X (compareOp .Eq) (rEqDD K') := by
  subst hK
  exact op_eqDD hr
end
end LL
/-! LY3: != where the right side is an instance of another own class; list comprehensions over a dict's keys and values. -/
namespace LL
open PySem PySem.Spec PyProof.Rows L2
def rNeTwo (C D : Addr) (sp : Sp) (E : XK) : R2 := fun x y H Q => ∃ a b, x = .ref a ∧ y = .ref b ∧ InsAt C H a ∧ InsAt D H b ∧ sp [x, y] H (fun v H' => ∃ c, v = .bl c ∧ Q (.bl (!c)) H') E
section
variable {X : Cx} {CX : CXT} {g : Bool} {k : Nat} {f C D : Addr} {fd : FuncData} {ps : List Str} {sp : Sp} {E : XK} {Ts : List String}
theorem op_neTwo (O2 : EqTwo X.K C D f) (O : NeOwn X.K C f Ts) (F : FnG X.prog X.w X.K X.mg X.base CX g k f fd ps sp) (hr : Room (k + 1) X.A) (hg : Clr g X.A) (hb : Binds X.K fd ps []) (hx : Passes CX X E) : OpR X (compareOp .NotEq) (rNeTwo C D sp E) := by
  intro pins s σ H x y v u Q I rx ry h
  obtain ⟨a, b, rfl, rfl, ⟨dx, fs, ea⟩, ⟨dy, gs, eb⟩, q⟩ := h
  obtain rfl : v = Value.ref a := rx
  obtain rfl : u = Value.ref b := ry
  obtain ⟨ox, od, J⟩ := inst_of I ea
  obtain ⟨oy, od2, J2⟩ := inst_of I eb
  have body : wpAny (model X.prog X.w) X.A.in1 (call (.ref f) [.ref a, .ref b]) (fun v s' => ∃ c, v = .bool c ∧ EP X pins σ Q (.bool (!c)) s') X.xe s :=
    wpAny_mono (run_g (us := [.ref a, .ref b]) (vs := [.ref a, .ref b]) (dvs := []) (E' := X.xe) F hr.in1 (clr_in1 hg) rfl hb .nil hx I (.cons rfl (.cons rfl .nil)) q) (fun w s' z => by
      obtain ⟨z1, H', I', r', c, rfl, q'⟩ := z
      cases r'
      exact ⟨c, rfl, .bl (!c), H', I', rfl, q'⟩) fun _ _ z => z
  have hu : X.A.in1.units < cLine := Nat.lt_of_le_of_lt (by show X.A.units + 1 ≤ X.A.units + 64; omega) hr.units
  show wpAny (model X.prog X.w) X.A (richCompare .NotEq (.ref a) (.ref b)) (EP X pins σ Q) X.xe s
  exact ne_K hu I.kIn J J2.type O2.ts O.obj O.ne O2.at_ O2.fn body
end
section
variable {σ : L2.St} {H H1 : Hp} {Q : VK} {g : TG} {tt : TT} {te : TE} {is : List Nat}
theorem u_lcVt {d : Addr} {o : Obj} {kvs : List (Key × V)} (q : ∀ D H0, H1 D = none → Same H1 H0 → H0 D = some (.lst []) → (∀ b, b ≠ D → H0 b = H1 b) → ∃ Pv : Nat → Hp → Prop, Pv 0 H0 ∧ (∀ i H, i ≤ kvs.length → Pv i H → H d = some (.frz o (.dK kvs))) ∧
    (∀ i k v H, kvs[i]? = some (k, v) → Pv i H → g v (wipe σ is) H fun σ2 H3 => wipe σ2 is = wipe σ is ∧ tt σ2 H3 fun b H4 =>
      if b = true then te σ2 H4 (Grow D (Pv (i + 1))) else Pv (i + 1) H4) ∧ ∀ H, Pv kvs.length H → Q (.ref D) H) : LcK g tt te is σ Q (Itd d o kvs) H1 := by
  intro D hD
  obtain ⟨Pv, h0, hl, hs, hd⟩ := q D _ hD (same_upd hD) upd_same fun b hb => upd_ne hb
  refine ⟨fun i m H => m = kvs.length - i ∧ i ≤ kvs.length ∧ Pv i H, ⟨kvs.length, by simp, Nat.zero_le _, h0⟩, ?_⟩
  rintro i m H ⟨rfl, hi, p⟩
  have st := hl i H hi p
  by_cases hlt : i < kvs.length
  · refine .inr ⟨⟨st, hlt⟩, Pv (i + 1), fun H' p' => ⟨kvs.length - (i + 1), by omega, rfl, hlt, p'⟩, fun x H' y => ?_⟩
    obtain ⟨rfl, k, e⟩ := y
    exact hs i k x H' e p
  · have e : i = kvs.length := by omega
    subst e
    exact .inl ⟨⟨st, Nat.le_refl _⟩, hd H p⟩
end
end LL
namespace K13
open PySem PySem.Spec PyProof.Rows L2 LL
def top (i : Nat) : Stmt := PySem.Challenge.pw_leastlog_k13_forms_reckoned.main.body.getD i (.Pass ⟨0, 0, 0, 0⟩)
abbrev s_is_whole : Stmt := top 13
abbrev s_has_only : Stmt := top 14
abbrev s_AmountU_initU : Stmt := inClass (top 16) 0
abbrev s_Amount_top : Stmt := inClass (top 16) 1
abbrev s_Amount_bottom : Stmt := inClass (top 16) 2
abbrev s_Amount_sign : Stmt := inClass (top 16) 3
abbrev s_AmountU_addU : Stmt := inClass (top 16) 4
abbrev s_AmountU_subU : Stmt := inClass (top 16) 5
abbrev s_AmountU_mulU : Stmt := inClass (top 16) 6
abbrev s_AmountU_negU : Stmt := inClass (top 16) 7
abbrev s_Amount_over : Stmt := inClass (top 16) 8
abbrev s_Amount_below : Stmt := inClass (top 16) 9
abbrev s_AmountU_eqU : Stmt := inClass (top 16) 10
abbrev s_AmountU_strU : Stmt := inClass (top 16) 11
abbrev s_AmountU_reprU : Stmt := inClass (top 16) 12
abbrev s_is_amount : Stmt := top 17
abbrev s_amount_of : Stmt := top 18
abbrev s_is_symbol : Stmt := top 21
abbrev s_FormU_initU : Stmt := inClass (top 22) 0
abbrev s_Form_of : Stmt := inClass (top 22) 1
abbrev s_Form_symbol : Stmt := inClass (top 22) 2
abbrev s_Form_constant_part : Stmt := inClass (top 22) 3
abbrev s_Form_is_constant : Stmt := inClass (top 22) 4
abbrev s_Form_linear_part : Stmt := inClass (top 22) 5
abbrev s_Form_terms : Stmt := inClass (top 22) 6
abbrev s_Form_symbols : Stmt := inClass (top 22) 7
abbrev s_Form_weight : Stmt := inClass (top 22) 8
abbrev s_FormU_addU : Stmt := inClass (top 22) 11
abbrev s_FormU_subU : Stmt := inClass (top 22) 12
abbrev s_FormU_mulU : Stmt := inClass (top 22) 13
abbrev s_FormU_negU : Stmt := inClass (top 22) 14
abbrev s_Form_over : Stmt := inClass (top 22) 15
abbrev s_FormU_eqU : Stmt := inClass (top 22) 16
abbrev s_FormU_strU : Stmt := inClass (top 22) 17
abbrev s_FormU_reprU : Stmt := inClass (top 22) 18
abbrev s_maps_symbols_to_amounts : Stmt := top 23
abbrev s_form_of : Stmt := top 24
abbrev s_form_text : Stmt := top 25
abbrev s_term_text : Stmt := top 26
abbrev s_unsigned_text : Stmt := top 27
abbrev s_l_pot : Stmt := top 29
abbrev s_l_digit : Stmt := top 30
abbrev s_l_pick : Stmt := top 31
abbrev s_l_whole : Stmt := top 32
abbrev s_l_pair : Stmt := top 33
abbrev s_l_lowest : Stmt := top 34
abbrev s_l_sum : Stmt := top 35
abbrev s_l_product : Stmt := top 36
abbrev s_l_clean : Stmt := top 37
abbrev s_l_drawn : Stmt := top 38
abbrev s_l_form : Stmt := top 39
abbrev s_l_amount_text : Stmt := top 40
abbrev s_l_text : Stmt := top 41
abbrev s_l_shown : Stmt := top 42
abbrev s_l_is : Stmt := top 43
abbrev s_l_joined : Stmt := top 44
abbrev s_l_scaled : Stmt := top 45
abbrev s_l_step : Stmt := top 46
abbrev s_l_right : Stmt := top 47
abbrev s_law : Stmt := top 48
structure Tx (K : PySem.W.Frag) (mg : Str → Option Value) where
  fd_is_whole : FuncData
  fd_has_only : FuncData
  fd_AmountU_initU : FuncData
  fd_Amount_top : FuncData
  fd_Amount_bottom : FuncData
  fd_Amount_sign : FuncData
  fd_AmountU_addU : FuncData
  fd_AmountU_subU : FuncData
  fd_AmountU_mulU : FuncData
  fd_AmountU_negU : FuncData
  fd_Amount_over : FuncData
  fd_Amount_below : FuncData
  fd_AmountU_eqU : FuncData
  fd_AmountU_strU : FuncData
  fd_AmountU_reprU : FuncData
  fd_is_amount : FuncData
  fd_amount_of : FuncData
  fd_is_symbol : FuncData
  fd_FormU_initU : FuncData
  fd_Form_of : FuncData
  fd_Form_symbol : FuncData
  fd_Form_constant_part : FuncData
  fd_Form_is_constant : FuncData
  fd_Form_linear_part : FuncData
  fd_Form_terms : FuncData
  fd_Form_symbols : FuncData
  fd_Form_weight : FuncData
  fd_FormU_addU : FuncData
  fd_FormU_subU : FuncData
  fd_FormU_mulU : FuncData
  fd_FormU_negU : FuncData
  fd_Form_over : FuncData
  fd_FormU_eqU : FuncData
  fd_FormU_strU : FuncData
  fd_FormU_reprU : FuncData
  fd_maps_symbols_to_amounts : FuncData
  fd_form_of : FuncData
  fd_form_text : FuncData
  fd_term_text : FuncData
  fd_unsigned_text : FuncData
  fd_l_pot : FuncData
  fd_l_digit : FuncData
  fd_l_pick : FuncData
  fd_l_whole : FuncData
  fd_l_pair : FuncData
  fd_l_lowest : FuncData
  fd_l_sum : FuncData
  fd_l_product : FuncData
  fd_l_clean : FuncData
  fd_l_drawn : FuncData
  fd_l_form : FuncData
  fd_l_amount_text : FuncData
  fd_l_text : FuncData
  fd_l_shown : FuncData
  fd_l_is : FuncData
  fd_l_joined : FuncData
  fd_l_scaled : FuncData
  fd_l_step : FuncData
  fd_l_right : FuncData
  fd_law : FuncData
  F_is_whole : FunD K "is_whole" "is_whole" (defArgs s_is_whole) (defBody s_is_whole) (defScope s_is_whole) [] [] (He.ga K "is_whole") fd_is_whole
  F_has_only : FunD K "has_only" "has_only" (defArgs s_has_only) (defBody s_has_only) (defScope s_has_only) [] [] (He.ga K "has_only") fd_has_only
  F_AmountU_initU : FunD K "__init__" "Amount.__init__" (defArgs s_AmountU_initU) (defBody s_AmountU_initU) (defScope s_AmountU_initU) [V.int 1] [] (He.ma K (He.ga K "Amount") "__init__") fd_AmountU_initU
  F_Amount_top : FunD K "top" "Amount.top" (defArgs s_Amount_top) (defBody s_Amount_top) (defScope s_Amount_top) [] [] (pget K "Amount" "top") fd_Amount_top
  F_Amount_bottom : FunD K "bottom" "Amount.bottom" (defArgs s_Amount_bottom) (defBody s_Amount_bottom) (defScope s_Amount_bottom) [] [] (pget K "Amount" "bottom") fd_Amount_bottom
  F_Amount_sign : FunD K "sign" "Amount.sign" (defArgs s_Amount_sign) (defBody s_Amount_sign) (defScope s_Amount_sign) [] [] (pget K "Amount" "sign") fd_Amount_sign
  F_AmountU_addU : FunD K "__add__" "Amount.__add__" (defArgs s_AmountU_addU) (defBody s_AmountU_addU) (defScope s_AmountU_addU) [] [] (He.ma K (He.ga K "Amount") "__add__") fd_AmountU_addU
  F_AmountU_subU : FunD K "__sub__" "Amount.__sub__" (defArgs s_AmountU_subU) (defBody s_AmountU_subU) (defScope s_AmountU_subU) [] [] (He.ma K (He.ga K "Amount") "__sub__") fd_AmountU_subU
  F_AmountU_mulU : FunD K "__mul__" "Amount.__mul__" (defArgs s_AmountU_mulU) (defBody s_AmountU_mulU) (defScope s_AmountU_mulU) [] [] (He.ma K (He.ga K "Amount") "__mul__") fd_AmountU_mulU
  F_AmountU_negU : FunD K "__neg__" "Amount.__neg__" (defArgs s_AmountU_negU) (defBody s_AmountU_negU) (defScope s_AmountU_negU) [] [] (He.ma K (He.ga K "Amount") "__neg__") fd_AmountU_negU
  F_Amount_over : FunD K "over" "Amount.over" (defArgs s_Amount_over) (defBody s_Amount_over) (defScope s_Amount_over) [] [] (He.ma K (He.ga K "Amount") "over") fd_Amount_over
  F_Amount_below : FunD K "below" "Amount.below" (defArgs s_Amount_below) (defBody s_Amount_below) (defScope s_Amount_below) [] [] (He.ma K (He.ga K "Amount") "below") fd_Amount_below
  F_AmountU_eqU : FunD K "__eq__" "Amount.__eq__" (defArgs s_AmountU_eqU) (defBody s_AmountU_eqU) (defScope s_AmountU_eqU) [] [] (He.ma K (He.ga K "Amount") "__eq__") fd_AmountU_eqU
  F_AmountU_strU : FunD K "__str__" "Amount.__str__" (defArgs s_AmountU_strU) (defBody s_AmountU_strU) (defScope s_AmountU_strU) [] [] (He.ma K (He.ga K "Amount") "__str__") fd_AmountU_strU
  F_AmountU_reprU : FunD K "__repr__" "Amount.__repr__" (defArgs s_AmountU_reprU) (defBody s_AmountU_reprU) (defScope s_AmountU_reprU) [] [] (He.ma K (He.ga K "Amount") "__repr__") fd_AmountU_reprU
  F_is_amount : FunD K "is_amount" "is_amount" (defArgs s_is_amount) (defBody s_is_amount) (defScope s_is_amount) [] [] (He.ga K "is_amount") fd_is_amount
  F_amount_of : FunD K "amount_of" "amount_of" (defArgs s_amount_of) (defBody s_amount_of) (defScope s_amount_of) [] [] (He.ga K "amount_of") fd_amount_of
  F_is_symbol : FunD K "is_symbol" "is_symbol" (defArgs s_is_symbol) (defBody s_is_symbol) (defScope s_is_symbol) [] [] (He.ga K "is_symbol") fd_is_symbol
  F_FormU_initU : FunD K "__init__" "Form.__init__" (defArgs s_FormU_initU) (defBody s_FormU_initU) (defScope s_FormU_initU) [V.int 0, V.non] [] (He.ma K (He.ga K "Form") "__init__") fd_FormU_initU
  F_Form_of : FunD K "of" "Form.of" (defArgs s_Form_of) (defBody s_Form_of) (defScope s_Form_of) [V.int 0] [] (wfn K "Form" "classmethod" "of") fd_Form_of
  F_Form_symbol : FunD K "symbol" "Form.symbol" (defArgs s_Form_symbol) (defBody s_Form_symbol) (defScope s_Form_symbol) [] [] (wfn K "Form" "staticmethod" "symbol") fd_Form_symbol
  F_Form_constant_part : FunD K "constant_part" "Form.constant_part" (defArgs s_Form_constant_part) (defBody s_Form_constant_part) (defScope s_Form_constant_part) [] [] (pget K "Form" "constant_part") fd_Form_constant_part
  F_Form_is_constant : FunD K "is_constant" "Form.is_constant" (defArgs s_Form_is_constant) (defBody s_Form_is_constant) (defScope s_Form_is_constant) [] [] (pget K "Form" "is_constant") fd_Form_is_constant
  F_Form_linear_part : FunD K "linear_part" "Form.linear_part" (defArgs s_Form_linear_part) (defBody s_Form_linear_part) (defScope s_Form_linear_part) [] [] (pget K "Form" "linear_part") fd_Form_linear_part
  F_Form_terms : FunD K "terms" "Form.terms" (defArgs s_Form_terms) (defBody s_Form_terms) (defScope s_Form_terms) [] [] (He.ma K (He.ga K "Form") "terms") fd_Form_terms
  F_Form_symbols : FunD K "symbols" "Form.symbols" (defArgs s_Form_symbols) (defBody s_Form_symbols) (defScope s_Form_symbols) [] [] (He.ma K (He.ga K "Form") "symbols") fd_Form_symbols
  F_Form_weight : FunD K "weight" "Form.weight" (defArgs s_Form_weight) (defBody s_Form_weight) (defScope s_Form_weight) [] [] (He.ma K (He.ga K "Form") "weight") fd_Form_weight
  F_FormU_addU : FunD K "__add__" "Form.__add__" (defArgs s_FormU_addU) (defBody s_FormU_addU) (defScope s_FormU_addU) [] [] (He.ma K (He.ga K "Form") "__add__") fd_FormU_addU
  F_FormU_subU : FunD K "__sub__" "Form.__sub__" (defArgs s_FormU_subU) (defBody s_FormU_subU) (defScope s_FormU_subU) [] [] (He.ma K (He.ga K "Form") "__sub__") fd_FormU_subU
  F_FormU_mulU : FunD K "__mul__" "Form.__mul__" (defArgs s_FormU_mulU) (defBody s_FormU_mulU) (defScope s_FormU_mulU) [] [] (He.ma K (He.ga K "Form") "__mul__") fd_FormU_mulU
  F_FormU_negU : FunD K "__neg__" "Form.__neg__" (defArgs s_FormU_negU) (defBody s_FormU_negU) (defScope s_FormU_negU) [] [] (He.ma K (He.ga K "Form") "__neg__") fd_FormU_negU
  F_Form_over : FunD K "over" "Form.over" (defArgs s_Form_over) (defBody s_Form_over) (defScope s_Form_over) [] [] (He.ma K (He.ga K "Form") "over") fd_Form_over
  F_FormU_eqU : FunD K "__eq__" "Form.__eq__" (defArgs s_FormU_eqU) (defBody s_FormU_eqU) (defScope s_FormU_eqU) [] [] (He.ma K (He.ga K "Form") "__eq__") fd_FormU_eqU
  F_FormU_strU : FunD K "__str__" "Form.__str__" (defArgs s_FormU_strU) (defBody s_FormU_strU) (defScope s_FormU_strU) [] [] (He.ma K (He.ga K "Form") "__str__") fd_FormU_strU
  F_FormU_reprU : FunD K "__repr__" "Form.__repr__" (defArgs s_FormU_reprU) (defBody s_FormU_reprU) (defScope s_FormU_reprU) [] [] (He.ma K (He.ga K "Form") "__repr__") fd_FormU_reprU
  F_maps_symbols_to_amounts : FunD K "maps_symbols_to_amounts" "maps_symbols_to_amounts" (defArgs s_maps_symbols_to_amounts) (defBody s_maps_symbols_to_amounts) (defScope s_maps_symbols_to_amounts) [] [] (He.ga K "maps_symbols_to_amounts") fd_maps_symbols_to_amounts
  F_form_of : FunD K "form_of" "form_of" (defArgs s_form_of) (defBody s_form_of) (defScope s_form_of) [] [] (He.ga K "form_of") fd_form_of
  F_form_text : FunD K "form_text" "form_text" (defArgs s_form_text) (defBody s_form_text) (defScope s_form_text) [] [] (He.ga K "form_text") fd_form_text
  F_term_text : FunD K "term_text" "term_text" (defArgs s_term_text) (defBody s_term_text) (defScope s_term_text) [] [] (He.ga K "term_text") fd_term_text
  F_unsigned_text : FunD K "unsigned_text" "unsigned_text" (defArgs s_unsigned_text) (defBody s_unsigned_text) (defScope s_unsigned_text) [] [] (He.ga K "unsigned_text") fd_unsigned_text
  F_l_pot : FunD K "_law_pot" "_law_pot" (defArgs s_l_pot) (defBody s_l_pot) (defScope s_l_pot) [] [] (He.ga K "_law_pot") fd_l_pot
  F_l_digit : FunD K "_law_digit" "_law_digit" (defArgs s_l_digit) (defBody s_l_digit) (defScope s_l_digit) [] [] (He.ga K "_law_digit") fd_l_digit
  F_l_pick : FunD K "_law_pick" "_law_pick" (defArgs s_l_pick) (defBody s_l_pick) (defScope s_l_pick) [] [] (He.ga K "_law_pick") fd_l_pick
  F_l_whole : FunD K "_law_whole" "_law_whole" (defArgs s_l_whole) (defBody s_l_whole) (defScope s_l_whole) [] [] (He.ga K "_law_whole") fd_l_whole
  F_l_pair : FunD K "_law_pair" "_law_pair" (defArgs s_l_pair) (defBody s_l_pair) (defScope s_l_pair) [] [] (He.ga K "_law_pair") fd_l_pair
  F_l_lowest : FunD K "_law_lowest" "_law_lowest" (defArgs s_l_lowest) (defBody s_l_lowest) (defScope s_l_lowest) [] [] (He.ga K "_law_lowest") fd_l_lowest
  F_l_sum : FunD K "_law_sum" "_law_sum" (defArgs s_l_sum) (defBody s_l_sum) (defScope s_l_sum) [] [] (He.ga K "_law_sum") fd_l_sum
  F_l_product : FunD K "_law_product" "_law_product" (defArgs s_l_product) (defBody s_l_product) (defScope s_l_product) [] [] (He.ga K "_law_product") fd_l_product
  F_l_clean : FunD K "_law_clean" "_law_clean" (defArgs s_l_clean) (defBody s_l_clean) (defScope s_l_clean) [] [] (He.ga K "_law_clean") fd_l_clean
  F_l_drawn : FunD K "_law_drawn" "_law_drawn" (defArgs s_l_drawn) (defBody s_l_drawn) (defScope s_l_drawn) [] [] (He.ga K "_law_drawn") fd_l_drawn
  F_l_form : FunD K "_law_form" "_law_form" (defArgs s_l_form) (defBody s_l_form) (defScope s_l_form) [] [] (He.ga K "_law_form") fd_l_form
  F_l_amount_text : FunD K "_law_amount_text" "_law_amount_text" (defArgs s_l_amount_text) (defBody s_l_amount_text) (defScope s_l_amount_text) [] [] (He.ga K "_law_amount_text") fd_l_amount_text
  F_l_text : FunD K "_law_text" "_law_text" (defArgs s_l_text) (defBody s_l_text) (defScope s_l_text) [] [] (He.ga K "_law_text") fd_l_text
  F_l_shown : FunD K "_law_shown" "_law_shown" (defArgs s_l_shown) (defBody s_l_shown) (defScope s_l_shown) [] [] (He.ga K "_law_shown") fd_l_shown
  F_l_is : FunD K "_law_is" "_law_is" (defArgs s_l_is) (defBody s_l_is) (defScope s_l_is) [] [] (He.ga K "_law_is") fd_l_is
  F_l_joined : FunD K "_law_joined" "_law_joined" (defArgs s_l_joined) (defBody s_l_joined) (defScope s_l_joined) [] [] (He.ga K "_law_joined") fd_l_joined
  F_l_scaled : FunD K "_law_scaled" "_law_scaled" (defArgs s_l_scaled) (defBody s_l_scaled) (defScope s_l_scaled) [] [] (He.ga K "_law_scaled") fd_l_scaled
  F_l_step : FunD K "_law_step" "_law_step" (defArgs s_l_step) (defBody s_l_step) (defScope s_l_step) [] [] (He.ga K "_law_step") fd_l_step
  F_l_right : FunD K "_law_right" "_law_right" (defArgs s_l_right) (defBody s_l_right) (defScope s_l_right) [] [] (He.ga K "_law_right") fd_l_right
  F_law : FunD K "law" "law" (defArgs s_law) (defBody s_law) (defScope s_law) [] [] (He.ga K "law") fd_law
  m_abs : mg "abs" = none
  m_all : mg "all" = none
  m_bool : mg "bool" = none
  m_dict : mg "dict" = none
  m_divmod : mg "divmod" = none
  m_int : mg "int" = none
  m_isinstance : mg "isinstance" = none
  m_len : mg "len" = none
  m_list : mg "list" = none
  m_max : mg "max" = none
  m_min : mg "min" = none
  m_range : mg "range" = none
  m_repr : mg "repr" = none
  m_sorted : mg "sorted" = none
  m_str : mg "str" = none
  m_zip : mg "zip" = none
  g_is_whole : mg "is_whole" = some (.ref (He.ga K "is_whole"))
  g_has_only : mg "has_only" = some (.ref (He.ga K "has_only"))
  g_is_amount : mg "is_amount" = some (.ref (He.ga K "is_amount"))
  g_amount_of : mg "amount_of" = some (.ref (He.ga K "amount_of"))
  g_is_symbol : mg "is_symbol" = some (.ref (He.ga K "is_symbol"))
  g_maps_symbols_to_amounts : mg "maps_symbols_to_amounts" = some (.ref (He.ga K "maps_symbols_to_amounts"))
  g_form_of : mg "form_of" = some (.ref (He.ga K "form_of"))
  g_form_text : mg "form_text" = some (.ref (He.ga K "form_text"))
  g_term_text : mg "term_text" = some (.ref (He.ga K "term_text"))
  g_unsigned_text : mg "unsigned_text" = some (.ref (He.ga K "unsigned_text"))
  g_l_pot : mg "_law_pot" = some (.ref (He.ga K "_law_pot"))
  g_l_digit : mg "_law_digit" = some (.ref (He.ga K "_law_digit"))
  g_l_pick : mg "_law_pick" = some (.ref (He.ga K "_law_pick"))
  g_l_whole : mg "_law_whole" = some (.ref (He.ga K "_law_whole"))
  g_l_pair : mg "_law_pair" = some (.ref (He.ga K "_law_pair"))
  g_l_lowest : mg "_law_lowest" = some (.ref (He.ga K "_law_lowest"))
  g_l_sum : mg "_law_sum" = some (.ref (He.ga K "_law_sum"))
  g_l_product : mg "_law_product" = some (.ref (He.ga K "_law_product"))
  g_l_clean : mg "_law_clean" = some (.ref (He.ga K "_law_clean"))
  g_l_drawn : mg "_law_drawn" = some (.ref (He.ga K "_law_drawn"))
  g_l_form : mg "_law_form" = some (.ref (He.ga K "_law_form"))
  g_l_amount_text : mg "_law_amount_text" = some (.ref (He.ga K "_law_amount_text"))
  g_l_text : mg "_law_text" = some (.ref (He.ga K "_law_text"))
  g_l_shown : mg "_law_shown" = some (.ref (He.ga K "_law_shown"))
  g_l_is : mg "_law_is" = some (.ref (He.ga K "_law_is"))
  g_l_joined : mg "_law_joined" = some (.ref (He.ga K "_law_joined"))
  g_l_scaled : mg "_law_scaled" = some (.ref (He.ga K "_law_scaled"))
  g_l_step : mg "_law_step" = some (.ref (He.ga K "_law_step"))
  g_l_right : mg "_law_right" = some (.ref (He.ga K "_law_right"))
  g_law : mg "law" = some (.ref (He.ga K "law"))
  g_Amount : mg "Amount" = some (.ref (He.ga K "Amount"))
  c_Amount : Cls K (He.ga K "Amount")
  k_Amount : Mk K (He.ga K "Amount") (He.ma K (He.ga K "Amount") "__init__")
  n_Amount_top : NoAttr K (He.ga K "Amount") "_top"
  n_Amount_bottom : NoAttr K (He.ga K "Amount") "_bottom"
  mt_Amount_over : Meth K (He.ga K "Amount") "over" (He.ma K (He.ga K "Amount") "over")
  mt_Amount_below : Meth K (He.ga K "Amount") "below" (He.ma K (He.ga K "Amount") "below")
  g_Form : mg "Form" = some (.ref (He.ga K "Form"))
  c_Form : Cls K (He.ga K "Form")
  k_Form : Mk K (He.ga K "Form") (He.ma K (He.ga K "Form") "__init__")
  n_Form_constant : NoAttr K (He.ga K "Form") "_constant"
  n_Form_weights : NoAttr K (He.ga K "Form") "_weights"
  mt_Form_terms : Meth K (He.ga K "Form") "terms" (He.ma K (He.ga K "Form") "terms")
  mt_Form_symbols : Meth K (He.ga K "Form") "symbols" (He.ma K (He.ga K "Form") "symbols")
  mt_Form_weight : Meth K (He.ga K "Form") "weight" (He.ma K (He.ga K "Form") "weight")
  mt_Form_over : Meth K (He.ga K "Form") "over" (He.ma K (He.ga K "Form") "over")
  g_LETTERS : ∃ t, mg "LETTERS" = some (.str "abcdefghijklmnopqrstuvwxyz" t)
  g_DIGITS : ∃ t, mg "DIGITS" = some (.str "0123456789" t)
  g_LONGEST_SYMBOL : ∃ t, mg "LONGEST_SYMBOL" = some (.int 24 t)
  p_Amount_top : PropOf K (He.ga K "Amount") "top" (He.ma K (He.ga K "Amount") "top") (pget K "Amount" "top")
  p_Amount_bottom : PropOf K (He.ga K "Amount") "bottom" (He.ma K (He.ga K "Amount") "bottom") (pget K "Amount" "bottom")
  p_Amount_sign : PropOf K (He.ga K "Amount") "sign" (He.ma K (He.ga K "Amount") "sign") (pget K "Amount" "sign")
  o_Amount_Add : OpOwn K (He.ga K "Amount") (Operator.info .Add).2 (He.ma K (He.ga K "Amount") "__add__") ["int"]
  o_Amount_Sub : OpOwn K (He.ga K "Amount") (Operator.info .Sub).2 (He.ma K (He.ga K "Amount") "__sub__") ["int"]
  o_Amount_Mult : OpOwn K (He.ga K "Amount") (Operator.info .Mult).2 (He.ma K (He.ga K "Amount") "__mul__") ["int"]
  o_Amount_neg : UnOwn K (He.ga K "Amount") "__neg__" (He.ma K (He.ga K "Amount") "__neg__")
  o_Amount_str : UnOwn K (He.ga K "Amount") "__str__" (He.ma K (He.ga K "Amount") "__str__")
  o_Amount_repr : UnOwn K (He.ga K "Amount") "__repr__" (He.ma K (He.ga K "Amount") "__repr__")
  o_Amount_eq : EqOwn K (He.ga K "Amount") (He.ma K (He.ga K "Amount") "__eq__") ["int"]
  o_Amount_ne : NeOwn K (He.ga K "Amount") (He.ma K (He.ga K "Amount") "__eq__") ["int"]
  i_Amount : IsiOwn K (He.ga K "Amount")
  kt_int_Amount : PySem.W.kitOne K (.type "int") (.ref (He.ga K "Amount")) = some false
  p_Form_constant_part : PropOf K (He.ga K "Form") "constant_part" (He.ma K (He.ga K "Form") "constant_part") (pget K "Form" "constant_part")
  p_Form_is_constant : PropOf K (He.ga K "Form") "is_constant" (He.ma K (He.ga K "Form") "is_constant") (pget K "Form" "is_constant")
  p_Form_linear_part : PropOf K (He.ga K "Form") "linear_part" (He.ma K (He.ga K "Form") "linear_part") (pget K "Form" "linear_part")
  o_Form_Add : OpOwn K (He.ga K "Form") (Operator.info .Add).2 (He.ma K (He.ga K "Form") "__add__") ["int"]
  o_Form_Sub : OpOwn K (He.ga K "Form") (Operator.info .Sub).2 (He.ma K (He.ga K "Form") "__sub__") ["int"]
  o_Form_Mult : OpOwn K (He.ga K "Form") (Operator.info .Mult).2 (He.ma K (He.ga K "Form") "__mul__") ["int"]
  o_Form_neg : UnOwn K (He.ga K "Form") "__neg__" (He.ma K (He.ga K "Form") "__neg__")
  o_Form_str : UnOwn K (He.ga K "Form") "__str__" (He.ma K (He.ga K "Form") "__str__")
  o_Form_repr : UnOwn K (He.ga K "Form") "__repr__" (He.ma K (He.ga K "Form") "__repr__")
  o_Form_eq : EqOwn K (He.ga K "Form") (He.ma K (He.ga K "Form") "__eq__") ["int", "str"]
  o_Form_ne : NeOwn K (He.ga K "Form") (He.ma K (He.ga K "Form") "__eq__") ["int", "str"]
  i_Form : IsiOwn K (He.ga K "Form")
  kt_int_Form : PySem.W.kitOne K (.type "int") (.ref (He.ga K "Form")) = some false
  t_Form_Amount_Add : OpTwo K (He.ga K "Form") (He.ga K "Amount") (Operator.info .Add).2 (He.ma K (He.ga K "Form") "__add__")
  t_Form_Amount_Sub : OpTwo K (He.ga K "Form") (He.ga K "Amount") (Operator.info .Sub).2 (He.ma K (He.ga K "Form") "__sub__")
  t_Form_Amount_Mult : OpTwo K (He.ga K "Form") (He.ga K "Amount") (Operator.info .Mult).2 (He.ma K (He.ga K "Form") "__mul__")
  e_Form_Amount : EqTwo K (He.ga K "Form") (He.ga K "Amount") (He.ma K (He.ga K "Form") "__eq__")
  e_Amount_Form : EqTwo K (He.ga K "Amount") (He.ga K "Form") (He.ma K (He.ga K "Amount") "__eq__")
  kt_Amount_Form : PySem.W.kitOne K (.ref (He.ga K "Amount")) (.ref (He.ga K "Form")) = some false
  kt_Form_Amount : PySem.W.kitOne K (.ref (He.ga K "Form")) (.ref (He.ga K "Amount")) = some false
  kt_str_Form : PySem.W.kitOne K (.type "str") (.ref (He.ga K "Form")) = some false
  cr_Form : ClX.CRead K (He.ga K "Form") (.type "type")
  cm_Form_of : ClX.CMet K (He.ga K "Form") (.type "type") "of" (He.ma K (He.ga K "Form") "of") (wfn K "Form" "classmethod" "of")
  sm_Form_symbol : SMet K (He.ga K "Form") "symbol" (He.ma K (He.ga K "Form") "symbol") (wfn K "Form" "staticmethod" "symbol")
  g_gcd : mg "gcd" = some (.builtin "math.gcd")
section
variable {K : PySem.W.Frag} {mg : Str → Option Value}
theorem Tx.b_is_whole (T : Tx K mg) : Binds K T.fd_is_whole ["value"] [] := T.F_is_whole.bindsN fun _ _ _ _ _ _ us hl => match us, hl with | [_], _ => rfl
theorem Tx.b_has_only (T : Tx K mg) : Binds K T.fd_has_only ["text", "characters"] [] := T.F_has_only.bindsN fun _ _ _ _ _ _ us hl => match us, hl with | [_, _], _ => rfl
theorem Tx.b_AmountU_initU_1 (T : Tx K mg) : ∃ ds, Vals [V.int 1] ds ∧ Binds K T.fd_AmountU_initU ["self", "top", "bottom"] ds := T.F_AmountU_initU.binds1 (ps := ["self", "top", "bottom"]) 2 0 (by simp) (by rfl) fun _ _ _ _ _ _ _ us its hl hi => match us, its, hl, hi with | [_, _], [_], _, _ => ⟨_, rfl, rfl⟩
theorem Tx.b_AmountU_initU (T : Tx K mg) : Binds K T.fd_AmountU_initU ["self", "top", "bottom"] [] := by
  obtain ⟨ds, hv, hb⟩ := T.F_AmountU_initU.binds1 (ps := ["self", "top", "bottom"]) 3 1 (by simp) (by rfl) fun _ _ _ _ _ _ _ us its hl hi => match us, its, hl, hi with | [_, _, _], [_], _, _ => ⟨_, rfl, rfl⟩
  cases hv; exact hb
theorem Tx.b_Amount_top (T : Tx K mg) : Binds K T.fd_Amount_top ["self"] [] := T.F_Amount_top.bindsN fun _ _ _ _ _ _ us hl => match us, hl with | [_], _ => rfl
theorem Tx.b_Amount_bottom (T : Tx K mg) : Binds K T.fd_Amount_bottom ["self"] [] := T.F_Amount_bottom.bindsN fun _ _ _ _ _ _ us hl => match us, hl with | [_], _ => rfl
theorem Tx.b_Amount_sign (T : Tx K mg) : Binds K T.fd_Amount_sign ["self"] [] := T.F_Amount_sign.bindsN fun _ _ _ _ _ _ us hl => match us, hl with | [_], _ => rfl
theorem Tx.b_AmountU_addU (T : Tx K mg) : Binds K T.fd_AmountU_addU ["self", "other"] [] := T.F_AmountU_addU.bindsN fun _ _ _ _ _ _ us hl => match us, hl with | [_, _], _ => rfl
theorem Tx.b_AmountU_subU (T : Tx K mg) : Binds K T.fd_AmountU_subU ["self", "other"] [] := T.F_AmountU_subU.bindsN fun _ _ _ _ _ _ us hl => match us, hl with | [_, _], _ => rfl
theorem Tx.b_AmountU_mulU (T : Tx K mg) : Binds K T.fd_AmountU_mulU ["self", "other"] [] := T.F_AmountU_mulU.bindsN fun _ _ _ _ _ _ us hl => match us, hl with | [_, _], _ => rfl
theorem Tx.b_AmountU_negU (T : Tx K mg) : Binds K T.fd_AmountU_negU ["self"] [] := T.F_AmountU_negU.bindsN fun _ _ _ _ _ _ us hl => match us, hl with | [_], _ => rfl
theorem Tx.b_Amount_over (T : Tx K mg) : Binds K T.fd_Amount_over ["self", "divisor"] [] := T.F_Amount_over.bindsN fun _ _ _ _ _ _ us hl => match us, hl with | [_, _], _ => rfl
theorem Tx.b_Amount_below (T : Tx K mg) : Binds K T.fd_Amount_below ["self", "other"] [] := T.F_Amount_below.bindsN fun _ _ _ _ _ _ us hl => match us, hl with | [_, _], _ => rfl
theorem Tx.b_AmountU_eqU (T : Tx K mg) : Binds K T.fd_AmountU_eqU ["self", "other"] [] := T.F_AmountU_eqU.bindsN fun _ _ _ _ _ _ us hl => match us, hl with | [_, _], _ => rfl
theorem Tx.b_AmountU_strU (T : Tx K mg) : Binds K T.fd_AmountU_strU ["self"] [] := T.F_AmountU_strU.bindsN fun _ _ _ _ _ _ us hl => match us, hl with | [_], _ => rfl
theorem Tx.b_AmountU_reprU (T : Tx K mg) : Binds K T.fd_AmountU_reprU ["self"] [] := T.F_AmountU_reprU.bindsN fun _ _ _ _ _ _ us hl => match us, hl with | [_], _ => rfl
theorem Tx.b_is_amount (T : Tx K mg) : Binds K T.fd_is_amount ["value"] [] := T.F_is_amount.bindsN fun _ _ _ _ _ _ us hl => match us, hl with | [_], _ => rfl
theorem Tx.b_amount_of (T : Tx K mg) : Binds K T.fd_amount_of ["value"] [] := T.F_amount_of.bindsN fun _ _ _ _ _ _ us hl => match us, hl with | [_], _ => rfl
theorem Tx.b_is_symbol (T : Tx K mg) : Binds K T.fd_is_symbol ["value"] [] := T.F_is_symbol.bindsN fun _ _ _ _ _ _ us hl => match us, hl with | [_], _ => rfl
theorem Tx.b_FormU_initU_0 (T : Tx K mg) : ∃ ds, Vals [V.int 0, V.non] ds ∧ Binds K T.fd_FormU_initU ["self", "constant", "weights"] ds := T.F_FormU_initU.binds1 (ps := ["self", "constant", "weights"]) 1 0 (by simp) (by rfl) fun _ _ _ _ _ _ _ us its hl hi => match us, its, hl, hi with | [_], [_, _], _, _ => ⟨_, rfl, rfl⟩
theorem Tx.b_FormU_initU_1 (T : Tx K mg) : ∃ ds, Vals [V.non] ds ∧ Binds K T.fd_FormU_initU ["self", "constant", "weights"] ds := T.F_FormU_initU.binds1 (ps := ["self", "constant", "weights"]) 2 1 (by simp) (by rfl) fun _ _ _ _ _ _ _ us its hl hi => match us, its, hl, hi with | [_, _], [_, _], _, _ => ⟨_, rfl, rfl⟩
theorem Tx.b_FormU_initU (T : Tx K mg) : Binds K T.fd_FormU_initU ["self", "constant", "weights"] [] := by
  obtain ⟨ds, hv, hb⟩ := T.F_FormU_initU.binds1 (ps := ["self", "constant", "weights"]) 3 2 (by simp) (by rfl) fun _ _ _ _ _ _ _ us its hl hi => match us, its, hl, hi with | [_, _, _], [_, _], _, _ => ⟨_, rfl, rfl⟩
  cases hv; exact hb
theorem Tx.b_Form_symbol (T : Tx K mg) : Binds K T.fd_Form_symbol ["symbol"] [] := T.F_Form_symbol.bindsN fun _ _ _ _ _ _ us hl => match us, hl with | [_], _ => rfl
theorem Tx.b_Form_constant_part (T : Tx K mg) : Binds K T.fd_Form_constant_part ["self"] [] := T.F_Form_constant_part.bindsN fun _ _ _ _ _ _ us hl => match us, hl with | [_], _ => rfl
theorem Tx.b_Form_is_constant (T : Tx K mg) : Binds K T.fd_Form_is_constant ["self"] [] := T.F_Form_is_constant.bindsN fun _ _ _ _ _ _ us hl => match us, hl with | [_], _ => rfl
theorem Tx.b_Form_linear_part (T : Tx K mg) : Binds K T.fd_Form_linear_part ["self"] [] := T.F_Form_linear_part.bindsN fun _ _ _ _ _ _ us hl => match us, hl with | [_], _ => rfl
theorem Tx.b_Form_terms (T : Tx K mg) : Binds K T.fd_Form_terms ["self"] [] := T.F_Form_terms.bindsN fun _ _ _ _ _ _ us hl => match us, hl with | [_], _ => rfl
theorem Tx.b_Form_symbols (T : Tx K mg) : Binds K T.fd_Form_symbols ["self"] [] := T.F_Form_symbols.bindsN fun _ _ _ _ _ _ us hl => match us, hl with | [_], _ => rfl
theorem Tx.b_Form_weight (T : Tx K mg) : Binds K T.fd_Form_weight ["self", "symbol"] [] := T.F_Form_weight.bindsN fun _ _ _ _ _ _ us hl => match us, hl with | [_, _], _ => rfl
theorem Tx.b_FormU_addU (T : Tx K mg) : Binds K T.fd_FormU_addU ["self", "other"] [] := T.F_FormU_addU.bindsN fun _ _ _ _ _ _ us hl => match us, hl with | [_, _], _ => rfl
theorem Tx.b_FormU_subU (T : Tx K mg) : Binds K T.fd_FormU_subU ["self", "other"] [] := T.F_FormU_subU.bindsN fun _ _ _ _ _ _ us hl => match us, hl with | [_, _], _ => rfl
theorem Tx.b_FormU_mulU (T : Tx K mg) : Binds K T.fd_FormU_mulU ["self", "other"] [] := T.F_FormU_mulU.bindsN fun _ _ _ _ _ _ us hl => match us, hl with | [_, _], _ => rfl
theorem Tx.b_FormU_negU (T : Tx K mg) : Binds K T.fd_FormU_negU ["self"] [] := T.F_FormU_negU.bindsN fun _ _ _ _ _ _ us hl => match us, hl with | [_], _ => rfl
theorem Tx.b_Form_over (T : Tx K mg) : Binds K T.fd_Form_over ["self", "divisor"] [] := T.F_Form_over.bindsN fun _ _ _ _ _ _ us hl => match us, hl with | [_, _], _ => rfl
theorem Tx.b_FormU_eqU (T : Tx K mg) : Binds K T.fd_FormU_eqU ["self", "other"] [] := T.F_FormU_eqU.bindsN fun _ _ _ _ _ _ us hl => match us, hl with | [_, _], _ => rfl
theorem Tx.b_FormU_strU (T : Tx K mg) : Binds K T.fd_FormU_strU ["self"] [] := T.F_FormU_strU.bindsN fun _ _ _ _ _ _ us hl => match us, hl with | [_], _ => rfl
theorem Tx.b_FormU_reprU (T : Tx K mg) : Binds K T.fd_FormU_reprU ["self"] [] := T.F_FormU_reprU.bindsN fun _ _ _ _ _ _ us hl => match us, hl with | [_], _ => rfl
theorem Tx.b_maps_symbols_to_amounts (T : Tx K mg) : Binds K T.fd_maps_symbols_to_amounts ["value"] [] := T.F_maps_symbols_to_amounts.bindsN fun _ _ _ _ _ _ us hl => match us, hl with | [_], _ => rfl
theorem Tx.b_form_of (T : Tx K mg) : Binds K T.fd_form_of ["value"] [] := T.F_form_of.bindsN fun _ _ _ _ _ _ us hl => match us, hl with | [_], _ => rfl
theorem Tx.b_form_text (T : Tx K mg) : Binds K T.fd_form_text ["constant", "weights"] [] := T.F_form_text.bindsN fun _ _ _ _ _ _ us hl => match us, hl with | [_, _], _ => rfl
theorem Tx.b_term_text (T : Tx K mg) : Binds K T.fd_term_text ["symbol", "weight"] [] := T.F_term_text.bindsN fun _ _ _ _ _ _ us hl => match us, hl with | [_, _], _ => rfl
theorem Tx.b_unsigned_text (T : Tx K mg) : Binds K T.fd_unsigned_text ["amount"] [] := T.F_unsigned_text.bindsN fun _ _ _ _ _ _ us hl => match us, hl with | [_], _ => rfl
theorem Tx.b_l_pot (T : Tx K mg) : Binds K T.fd_l_pot ["_law_script", "_law_k"] [] := T.F_l_pot.bindsN fun _ _ _ _ _ _ us hl => match us, hl with | [_, _], _ => rfl
theorem Tx.b_l_digit (T : Tx K mg) : Binds K T.fd_l_digit ["_law_pot_here", "_law_many"] [] := T.F_l_digit.bindsN fun _ _ _ _ _ _ us hl => match us, hl with | [_, _], _ => rfl
theorem Tx.b_l_pick (T : Tx K mg) : Binds K T.fd_l_pick ["_law_pot_here", "_law_some"] [] := T.F_l_pick.bindsN fun _ _ _ _ _ _ us hl => match us, hl with | [_, _], _ => rfl
theorem Tx.b_l_whole (T : Tx K mg) : Binds K T.fd_l_whole ["_law_pot_here"] [] := T.F_l_whole.bindsN fun _ _ _ _ _ _ us hl => match us, hl with | [_], _ => rfl
theorem Tx.b_l_pair (T : Tx K mg) : Binds K T.fd_l_pair ["_law_pot_here"] [] := T.F_l_pair.bindsN fun _ _ _ _ _ _ us hl => match us, hl with | [_], _ => rfl
theorem Tx.b_l_lowest (T : Tx K mg) : Binds K T.fd_l_lowest ["_law_pair_here"] [] := T.F_l_lowest.bindsN fun _ _ _ _ _ _ us hl => match us, hl with | [_], _ => rfl
theorem Tx.b_l_sum (T : Tx K mg) : Binds K T.fd_l_sum ["_law_pair_here", "_law_other"] [] := T.F_l_sum.bindsN fun _ _ _ _ _ _ us hl => match us, hl with | [_, _], _ => rfl
theorem Tx.b_l_product (T : Tx K mg) : Binds K T.fd_l_product ["_law_pair_here", "_law_other"] [] := T.F_l_product.bindsN fun _ _ _ _ _ _ us hl => match us, hl with | [_, _], _ => rfl
theorem Tx.b_l_clean (T : Tx K mg) : Binds K T.fd_l_clean ["_law_row"] [] := T.F_l_clean.bindsN fun _ _ _ _ _ _ us hl => match us, hl with | [_], _ => rfl
theorem Tx.b_l_drawn (T : Tx K mg) : Binds K T.fd_l_drawn ["_law_pot_here"] [] := T.F_l_drawn.bindsN fun _ _ _ _ _ _ us hl => match us, hl with | [_], _ => rfl
theorem Tx.b_l_form (T : Tx K mg) : Binds K T.fd_l_form ["_law_row", "_law_has_whole"] [] := T.F_l_form.bindsN fun _ _ _ _ _ _ us hl => match us, hl with | [_, _], _ => rfl
theorem Tx.b_l_amount_text (T : Tx K mg) : Binds K T.fd_l_amount_text ["_law_pair_here"] [] := T.F_l_amount_text.bindsN fun _ _ _ _ _ _ us hl => match us, hl with | [_], _ => rfl
theorem Tx.b_l_text (T : Tx K mg) : Binds K T.fd_l_text ["_law_row"] [] := T.F_l_text.bindsN fun _ _ _ _ _ _ us hl => match us, hl with | [_], _ => rfl
theorem Tx.b_l_shown (T : Tx K mg) : Binds K T.fd_l_shown ["_law_pair_here"] [] := T.F_l_shown.bindsN fun _ _ _ _ _ _ us hl => match us, hl with | [_], _ => rfl
theorem Tx.b_l_is (T : Tx K mg) : Binds K T.fd_l_is ["_law_form_here", "_law_row"] [] := T.F_l_is.bindsN fun _ _ _ _ _ _ us hl => match us, hl with | [_, _], _ => rfl
theorem Tx.b_l_joined (T : Tx K mg) : Binds K T.fd_l_joined ["_law_row", "_law_other", "_law_sign"] [] := T.F_l_joined.bindsN fun _ _ _ _ _ _ us hl => match us, hl with | [_, _, _], _ => rfl
theorem Tx.b_l_scaled (T : Tx K mg) : Binds K T.fd_l_scaled ["_law_row", "_law_pair_here"] [] := T.F_l_scaled.bindsN fun _ _ _ _ _ _ us hl => match us, hl with | [_, _], _ => rfl
theorem Tx.b_l_step (T : Tx K mg) : Binds K T.fd_l_step ["_law_pot_here", "_law_rows", "_law_forms"] [] := T.F_l_step.bindsN fun _ _ _ _ _ _ us hl => match us, hl with | [_, _, _], _ => rfl
theorem Tx.b_l_right (T : Tx K mg) : Binds K T.fd_l_right ["_law_pot_here"] [] := T.F_l_right.bindsN fun _ _ _ _ _ _ us hl => match us, hl with | [_], _ => rfl
theorem Tx.b_law (T : Tx K mg) : Binds K T.fd_law ["_law_script"] [] := T.F_law.bindsN fun _ _ _ _ _ _ us hl => match us, hl with | [_], _ => rfl
end
def hfa : List He.Fa := [.free "abs", .free "all", .free "bool", .free "dict", .free "divmod", .free "int", .free "isinstance", .free "len", .free "list", .free "max", .free "min", .free "range", .free "repr", .free "sorted", .free "str", .free "zip", .glo "is_whole", .glo "has_only", .glo "is_amount", .glo "amount_of", .glo "is_symbol", .glo "maps_symbols_to_amounts", .glo "form_of", .glo "form_text", .glo "term_text", .glo "unsigned_text", .glo "_law_pot", .glo "_law_digit", .glo "_law_pick", .glo "_law_whole", .glo "_law_pair", .glo "_law_lowest", .glo "_law_sum", .glo "_law_product", .glo "_law_clean", .glo "_law_drawn", .glo "_law_form", .glo "_law_amount_text", .glo "_law_text", .glo "_law_shown", .glo "_law_is", .glo "_law_joined", .glo "_law_scaled", .glo "_law_step", .glo "_law_right", .glo "law", .glo "Amount", .cls "Amount", .mkr "Amount", .noat "Amount" "_top", .noat "Amount" "_bottom", .meth "Amount" "over", .meth "Amount" "below", .glo "Form", .cls "Form", .mkr "Form", .noat "Form" "_constant", .noat "Form" "_weights", .meth "Form" "terms", .meth "Form" "symbols", .meth "Form" "weight", .meth "Form" "over", .str "LETTERS" "abcdefghijklmnopqrstuvwxyz", .str "DIGITS" "0123456789", .int "LONGEST_SYMBOL" 24]
def hex (K : PySem.W.Frag) : Bool := propB K "Amount" "top" && (propB K "Amount" "bottom" && (propB K "Amount" "sign" && (opB K "Amount" (Operator.info .Add).2 ["int"] && (opB K "Amount" (Operator.info .Sub).2 ["int"] && (opB K "Amount" (Operator.info .Mult).2 ["int"] && (fnB K "Amount" "__neg__" && (fnB K "Amount" "__str__" && (fnB K "Amount" "__repr__" && (eqB K "Amount" ["int"] && (neB K "Amount" ["int"] && (isiB K "Amount" && (kitTB K "int" "Amount" false && (propB K "Form" "constant_part" && (propB K "Form" "is_constant" && (propB K "Form" "linear_part" && (opB K "Form" (Operator.info .Add).2 ["int"] && (opB K "Form" (Operator.info .Sub).2 ["int"] && (opB K "Form" (Operator.info .Mult).2 ["int"] && (fnB K "Form" "__neg__" && (fnB K "Form" "__str__" && (fnB K "Form" "__repr__" && (eqB K "Form" ["int", "str"] && (neB K "Form" ["int", "str"] && (isiB K "Form" && (kitTB K "int" "Form" false && (twoB K "Form" "Amount" (Operator.info .Add).2 && (twoB K "Form" "Amount" (Operator.info .Sub).2 && (twoB K "Form" "Amount" (Operator.info .Mult).2 && (eqTwoB K "Form" "Amount" && (eqTwoB K "Amount" "Form" && (kitOB K "Amount" "Form" false && (kitOB K "Form" "Amount" false && (kitTB K "str" "Form" false && (crB K "Form" && (cmB K "Form" "of" && (smB K "Form" "symbol"))))))))))))))))))))))))))))))))))))
def d_is_whole : He5.DefA := ⟨fun K => (He.ga K "is_whole"), "is_whole", "is_whole", defArgs s_is_whole, defBody s_is_whole, defScope s_is_whole, [], []⟩
def d_has_only : He5.DefA := ⟨fun K => (He.ga K "has_only"), "has_only", "has_only", defArgs s_has_only, defBody s_has_only, defScope s_has_only, [], []⟩
def d_AmountU_initU : He5.DefA := ⟨fun K => (He.ma K (He.ga K "Amount") "__init__"), "__init__", "Amount.__init__", defArgs s_AmountU_initU, defBody s_AmountU_initU, defScope s_AmountU_initU, [.int 1], []⟩
def d_Amount_top : He5.DefA := ⟨fun K => (pget K "Amount" "top"), "top", "Amount.top", defArgs s_Amount_top, defBody s_Amount_top, defScope s_Amount_top, [], []⟩
def d_Amount_bottom : He5.DefA := ⟨fun K => (pget K "Amount" "bottom"), "bottom", "Amount.bottom", defArgs s_Amount_bottom, defBody s_Amount_bottom, defScope s_Amount_bottom, [], []⟩
def d_Amount_sign : He5.DefA := ⟨fun K => (pget K "Amount" "sign"), "sign", "Amount.sign", defArgs s_Amount_sign, defBody s_Amount_sign, defScope s_Amount_sign, [], []⟩
def d_AmountU_addU : He5.DefA := ⟨fun K => (He.ma K (He.ga K "Amount") "__add__"), "__add__", "Amount.__add__", defArgs s_AmountU_addU, defBody s_AmountU_addU, defScope s_AmountU_addU, [], []⟩
def d_AmountU_subU : He5.DefA := ⟨fun K => (He.ma K (He.ga K "Amount") "__sub__"), "__sub__", "Amount.__sub__", defArgs s_AmountU_subU, defBody s_AmountU_subU, defScope s_AmountU_subU, [], []⟩
def d_AmountU_mulU : He5.DefA := ⟨fun K => (He.ma K (He.ga K "Amount") "__mul__"), "__mul__", "Amount.__mul__", defArgs s_AmountU_mulU, defBody s_AmountU_mulU, defScope s_AmountU_mulU, [], []⟩
def d_AmountU_negU : He5.DefA := ⟨fun K => (He.ma K (He.ga K "Amount") "__neg__"), "__neg__", "Amount.__neg__", defArgs s_AmountU_negU, defBody s_AmountU_negU, defScope s_AmountU_negU, [], []⟩
def d_Amount_over : He5.DefA := ⟨fun K => (He.ma K (He.ga K "Amount") "over"), "over", "Amount.over", defArgs s_Amount_over, defBody s_Amount_over, defScope s_Amount_over, [], []⟩
def d_Amount_below : He5.DefA := ⟨fun K => (He.ma K (He.ga K "Amount") "below"), "below", "Amount.below", defArgs s_Amount_below, defBody s_Amount_below, defScope s_Amount_below, [], []⟩
def d_AmountU_eqU : He5.DefA := ⟨fun K => (He.ma K (He.ga K "Amount") "__eq__"), "__eq__", "Amount.__eq__", defArgs s_AmountU_eqU, defBody s_AmountU_eqU, defScope s_AmountU_eqU, [], []⟩
def d_AmountU_strU : He5.DefA := ⟨fun K => (He.ma K (He.ga K "Amount") "__str__"), "__str__", "Amount.__str__", defArgs s_AmountU_strU, defBody s_AmountU_strU, defScope s_AmountU_strU, [], []⟩
def d_AmountU_reprU : He5.DefA := ⟨fun K => (He.ma K (He.ga K "Amount") "__repr__"), "__repr__", "Amount.__repr__", defArgs s_AmountU_reprU, defBody s_AmountU_reprU, defScope s_AmountU_reprU, [], []⟩
def d_is_amount : He5.DefA := ⟨fun K => (He.ga K "is_amount"), "is_amount", "is_amount", defArgs s_is_amount, defBody s_is_amount, defScope s_is_amount, [], []⟩
def d_amount_of : He5.DefA := ⟨fun K => (He.ga K "amount_of"), "amount_of", "amount_of", defArgs s_amount_of, defBody s_amount_of, defScope s_amount_of, [], []⟩
def d_is_symbol : He5.DefA := ⟨fun K => (He.ga K "is_symbol"), "is_symbol", "is_symbol", defArgs s_is_symbol, defBody s_is_symbol, defScope s_is_symbol, [], []⟩
def d_FormU_initU : He5.DefA := ⟨fun K => (He.ma K (He.ga K "Form") "__init__"), "__init__", "Form.__init__", defArgs s_FormU_initU, defBody s_FormU_initU, defScope s_FormU_initU, [.int 0, .non], []⟩
def d_Form_of : He5.DefA := ⟨fun K => (wfn K "Form" "classmethod" "of"), "of", "Form.of", defArgs s_Form_of, defBody s_Form_of, defScope s_Form_of, [.int 0], []⟩
def d_Form_symbol : He5.DefA := ⟨fun K => (wfn K "Form" "staticmethod" "symbol"), "symbol", "Form.symbol", defArgs s_Form_symbol, defBody s_Form_symbol, defScope s_Form_symbol, [], []⟩
def d_Form_constant_part : He5.DefA := ⟨fun K => (pget K "Form" "constant_part"), "constant_part", "Form.constant_part", defArgs s_Form_constant_part, defBody s_Form_constant_part, defScope s_Form_constant_part, [], []⟩
def d_Form_is_constant : He5.DefA := ⟨fun K => (pget K "Form" "is_constant"), "is_constant", "Form.is_constant", defArgs s_Form_is_constant, defBody s_Form_is_constant, defScope s_Form_is_constant, [], []⟩
def d_Form_linear_part : He5.DefA := ⟨fun K => (pget K "Form" "linear_part"), "linear_part", "Form.linear_part", defArgs s_Form_linear_part, defBody s_Form_linear_part, defScope s_Form_linear_part, [], []⟩
def d_Form_terms : He5.DefA := ⟨fun K => (He.ma K (He.ga K "Form") "terms"), "terms", "Form.terms", defArgs s_Form_terms, defBody s_Form_terms, defScope s_Form_terms, [], []⟩
def d_Form_symbols : He5.DefA := ⟨fun K => (He.ma K (He.ga K "Form") "symbols"), "symbols", "Form.symbols", defArgs s_Form_symbols, defBody s_Form_symbols, defScope s_Form_symbols, [], []⟩
def d_Form_weight : He5.DefA := ⟨fun K => (He.ma K (He.ga K "Form") "weight"), "weight", "Form.weight", defArgs s_Form_weight, defBody s_Form_weight, defScope s_Form_weight, [], []⟩
def d_FormU_addU : He5.DefA := ⟨fun K => (He.ma K (He.ga K "Form") "__add__"), "__add__", "Form.__add__", defArgs s_FormU_addU, defBody s_FormU_addU, defScope s_FormU_addU, [], []⟩
def d_FormU_subU : He5.DefA := ⟨fun K => (He.ma K (He.ga K "Form") "__sub__"), "__sub__", "Form.__sub__", defArgs s_FormU_subU, defBody s_FormU_subU, defScope s_FormU_subU, [], []⟩
def d_FormU_mulU : He5.DefA := ⟨fun K => (He.ma K (He.ga K "Form") "__mul__"), "__mul__", "Form.__mul__", defArgs s_FormU_mulU, defBody s_FormU_mulU, defScope s_FormU_mulU, [], []⟩
def d_FormU_negU : He5.DefA := ⟨fun K => (He.ma K (He.ga K "Form") "__neg__"), "__neg__", "Form.__neg__", defArgs s_FormU_negU, defBody s_FormU_negU, defScope s_FormU_negU, [], []⟩
def d_Form_over : He5.DefA := ⟨fun K => (He.ma K (He.ga K "Form") "over"), "over", "Form.over", defArgs s_Form_over, defBody s_Form_over, defScope s_Form_over, [], []⟩
def d_FormU_eqU : He5.DefA := ⟨fun K => (He.ma K (He.ga K "Form") "__eq__"), "__eq__", "Form.__eq__", defArgs s_FormU_eqU, defBody s_FormU_eqU, defScope s_FormU_eqU, [], []⟩
def d_FormU_strU : He5.DefA := ⟨fun K => (He.ma K (He.ga K "Form") "__str__"), "__str__", "Form.__str__", defArgs s_FormU_strU, defBody s_FormU_strU, defScope s_FormU_strU, [], []⟩
def d_FormU_reprU : He5.DefA := ⟨fun K => (He.ma K (He.ga K "Form") "__repr__"), "__repr__", "Form.__repr__", defArgs s_FormU_reprU, defBody s_FormU_reprU, defScope s_FormU_reprU, [], []⟩
def d_maps_symbols_to_amounts : He5.DefA := ⟨fun K => (He.ga K "maps_symbols_to_amounts"), "maps_symbols_to_amounts", "maps_symbols_to_amounts", defArgs s_maps_symbols_to_amounts, defBody s_maps_symbols_to_amounts, defScope s_maps_symbols_to_amounts, [], []⟩
def d_form_of : He5.DefA := ⟨fun K => (He.ga K "form_of"), "form_of", "form_of", defArgs s_form_of, defBody s_form_of, defScope s_form_of, [], []⟩
def d_form_text : He5.DefA := ⟨fun K => (He.ga K "form_text"), "form_text", "form_text", defArgs s_form_text, defBody s_form_text, defScope s_form_text, [], []⟩
def d_term_text : He5.DefA := ⟨fun K => (He.ga K "term_text"), "term_text", "term_text", defArgs s_term_text, defBody s_term_text, defScope s_term_text, [], []⟩
def d_unsigned_text : He5.DefA := ⟨fun K => (He.ga K "unsigned_text"), "unsigned_text", "unsigned_text", defArgs s_unsigned_text, defBody s_unsigned_text, defScope s_unsigned_text, [], []⟩
def d_l_pot : He5.DefA := ⟨fun K => (He.ga K "_law_pot"), "_law_pot", "_law_pot", defArgs s_l_pot, defBody s_l_pot, defScope s_l_pot, [], []⟩
def d_l_digit : He5.DefA := ⟨fun K => (He.ga K "_law_digit"), "_law_digit", "_law_digit", defArgs s_l_digit, defBody s_l_digit, defScope s_l_digit, [], []⟩
def d_l_pick : He5.DefA := ⟨fun K => (He.ga K "_law_pick"), "_law_pick", "_law_pick", defArgs s_l_pick, defBody s_l_pick, defScope s_l_pick, [], []⟩
def d_l_whole : He5.DefA := ⟨fun K => (He.ga K "_law_whole"), "_law_whole", "_law_whole", defArgs s_l_whole, defBody s_l_whole, defScope s_l_whole, [], []⟩
def d_l_pair : He5.DefA := ⟨fun K => (He.ga K "_law_pair"), "_law_pair", "_law_pair", defArgs s_l_pair, defBody s_l_pair, defScope s_l_pair, [], []⟩
def d_l_lowest : He5.DefA := ⟨fun K => (He.ga K "_law_lowest"), "_law_lowest", "_law_lowest", defArgs s_l_lowest, defBody s_l_lowest, defScope s_l_lowest, [], []⟩
def d_l_sum : He5.DefA := ⟨fun K => (He.ga K "_law_sum"), "_law_sum", "_law_sum", defArgs s_l_sum, defBody s_l_sum, defScope s_l_sum, [], []⟩
def d_l_product : He5.DefA := ⟨fun K => (He.ga K "_law_product"), "_law_product", "_law_product", defArgs s_l_product, defBody s_l_product, defScope s_l_product, [], []⟩
def d_l_clean : He5.DefA := ⟨fun K => (He.ga K "_law_clean"), "_law_clean", "_law_clean", defArgs s_l_clean, defBody s_l_clean, defScope s_l_clean, [], []⟩
def d_l_drawn : He5.DefA := ⟨fun K => (He.ga K "_law_drawn"), "_law_drawn", "_law_drawn", defArgs s_l_drawn, defBody s_l_drawn, defScope s_l_drawn, [], []⟩
def d_l_form : He5.DefA := ⟨fun K => (He.ga K "_law_form"), "_law_form", "_law_form", defArgs s_l_form, defBody s_l_form, defScope s_l_form, [], []⟩
def d_l_amount_text : He5.DefA := ⟨fun K => (He.ga K "_law_amount_text"), "_law_amount_text", "_law_amount_text", defArgs s_l_amount_text, defBody s_l_amount_text, defScope s_l_amount_text, [], []⟩
def d_l_text : He5.DefA := ⟨fun K => (He.ga K "_law_text"), "_law_text", "_law_text", defArgs s_l_text, defBody s_l_text, defScope s_l_text, [], []⟩
def d_l_shown : He5.DefA := ⟨fun K => (He.ga K "_law_shown"), "_law_shown", "_law_shown", defArgs s_l_shown, defBody s_l_shown, defScope s_l_shown, [], []⟩
def d_l_is : He5.DefA := ⟨fun K => (He.ga K "_law_is"), "_law_is", "_law_is", defArgs s_l_is, defBody s_l_is, defScope s_l_is, [], []⟩
def d_l_joined : He5.DefA := ⟨fun K => (He.ga K "_law_joined"), "_law_joined", "_law_joined", defArgs s_l_joined, defBody s_l_joined, defScope s_l_joined, [], []⟩
def d_l_scaled : He5.DefA := ⟨fun K => (He.ga K "_law_scaled"), "_law_scaled", "_law_scaled", defArgs s_l_scaled, defBody s_l_scaled, defScope s_l_scaled, [], []⟩
def d_l_step : He5.DefA := ⟨fun K => (He.ga K "_law_step"), "_law_step", "_law_step", defArgs s_l_step, defBody s_l_step, defScope s_l_step, [], []⟩
def d_l_right : He5.DefA := ⟨fun K => (He.ga K "_law_right"), "_law_right", "_law_right", defArgs s_l_right, defBody s_l_right, defScope s_l_right, [], []⟩
def d_law : He5.DefA := ⟨fun K => (He.ga K "law"), "law", "law", defArgs s_law, defBody s_law, defScope s_law, [], []⟩
def hfn : List He5.DefA := [d_is_whole, d_has_only, d_AmountU_initU, d_Amount_top, d_Amount_bottom, d_Amount_sign, d_AmountU_addU, d_AmountU_subU, d_AmountU_mulU, d_AmountU_negU, d_Amount_over, d_Amount_below, d_AmountU_eqU, d_AmountU_strU, d_AmountU_reprU, d_is_amount, d_amount_of, d_is_symbol, d_FormU_initU, d_Form_of, d_Form_symbol, d_Form_constant_part, d_Form_is_constant, d_Form_linear_part, d_Form_terms, d_Form_symbols, d_Form_weight, d_FormU_addU, d_FormU_subU, d_FormU_mulU, d_FormU_negU, d_Form_over, d_FormU_eqU, d_FormU_strU, d_FormU_reprU, d_maps_symbols_to_amounts, d_form_of, d_form_text, d_term_text, d_unsigned_text, d_l_pot, d_l_digit, d_l_pick, d_l_whole, d_l_pair, d_l_lowest, d_l_sum, d_l_product, d_l_clean, d_l_drawn, d_l_form, d_l_amount_text, d_l_text, d_l_shown, d_l_is, d_l_joined, d_l_scaled, d_l_step, d_l_right, d_law]
abbrev R : PySem.W.OpenRow := PySem.W.OpenLaw.row PySem.Challenge.rw_leastlog_k13_forms_reckoned
def loose : List Str := (["gcd", "_wall", "LeastlogError", "InvalidAmount", "InvalidSymbol", "InvalidTerms", "InvalidForm", "ZeroDivisor", "LETTERS", "DIGITS", "is_whole", "has_only"] : List Str) ++ (["Amount", "is_amount", "amount_of", "LONGEST_SYMBOL", "is_symbol", "Form", "maps_symbols_to_amounts", "form_of", "form_text", "term_text", "unsigned_text", "_law_pot"] : List Str) ++ (["_law_digit", "_law_pick", "_law_whole", "_law_pair", "_law_lowest", "_law_sum", "_law_product", "_law_clean", "_law_drawn", "_law_form", "_law_amount_text", "_law_text"] : List Str) ++ (["_law_shown", "_law_is", "_law_joined", "_law_scaled", "_law_step", "_law_right"] : List Str)
abbrev hk : PySem.W.Hook := hookL 6 hfa hfn hex
def ob (s : PySem.W.SharedT) : He.AlD × Bool := obsLG 6 hfa hfn hex (HandSHeadRun.getT s)
theorem ob_eq (s : PySem.W.SharedT) : ob s = hk.obs s.abs := obsLG_eq (HandSHeadRun.getT_eq s)
theorem run (w : World) : RunI R (PySem.W.view R.prog [0, 48]) hk ob 9000 9000 loose w := by
  unfold LL.RunI
  kernel_rfl
theorem tx_of {K : PySem.W.Frag} {h : Heap} {mg : Str → Option Value} (X : K.In h) (G : h.Ns mainGlobals mg) (XX : PySem.W.XL (PySem.W.view R.prog [0, 48]) [] mg h) (c : He5.SaysA hfa hfn K) (x : hex K = true) : ∃ T : Tx K mg, True := by
  obtain ⟨fd0, F0⟩ := c.def_ 0 (d := d_is_whole) rfl
  obtain ⟨fd1, F1⟩ := c.def_ 1 (d := d_has_only) rfl
  obtain ⟨fd2, F2⟩ := c.def_ 2 (d := d_AmountU_initU) rfl
  obtain ⟨fd3, F3⟩ := c.def_ 3 (d := d_Amount_top) rfl
  obtain ⟨fd4, F4⟩ := c.def_ 4 (d := d_Amount_bottom) rfl
  obtain ⟨fd5, F5⟩ := c.def_ 5 (d := d_Amount_sign) rfl
  obtain ⟨fd6, F6⟩ := c.def_ 6 (d := d_AmountU_addU) rfl
  obtain ⟨fd7, F7⟩ := c.def_ 7 (d := d_AmountU_subU) rfl
  obtain ⟨fd8, F8⟩ := c.def_ 8 (d := d_AmountU_mulU) rfl
  obtain ⟨fd9, F9⟩ := c.def_ 9 (d := d_AmountU_negU) rfl
  obtain ⟨fd10, F10⟩ := c.def_ 10 (d := d_Amount_over) rfl
  obtain ⟨fd11, F11⟩ := c.def_ 11 (d := d_Amount_below) rfl
  obtain ⟨fd12, F12⟩ := c.def_ 12 (d := d_AmountU_eqU) rfl
  obtain ⟨fd13, F13⟩ := c.def_ 13 (d := d_AmountU_strU) rfl
  obtain ⟨fd14, F14⟩ := c.def_ 14 (d := d_AmountU_reprU) rfl
  obtain ⟨fd15, F15⟩ := c.def_ 15 (d := d_is_amount) rfl
  obtain ⟨fd16, F16⟩ := c.def_ 16 (d := d_amount_of) rfl
  obtain ⟨fd17, F17⟩ := c.def_ 17 (d := d_is_symbol) rfl
  obtain ⟨fd18, F18⟩ := c.def_ 18 (d := d_FormU_initU) rfl
  obtain ⟨fd19, F19⟩ := c.def_ 19 (d := d_Form_of) rfl
  obtain ⟨fd20, F20⟩ := c.def_ 20 (d := d_Form_symbol) rfl
  obtain ⟨fd21, F21⟩ := c.def_ 21 (d := d_Form_constant_part) rfl
  obtain ⟨fd22, F22⟩ := c.def_ 22 (d := d_Form_is_constant) rfl
  obtain ⟨fd23, F23⟩ := c.def_ 23 (d := d_Form_linear_part) rfl
  obtain ⟨fd24, F24⟩ := c.def_ 24 (d := d_Form_terms) rfl
  obtain ⟨fd25, F25⟩ := c.def_ 25 (d := d_Form_symbols) rfl
  obtain ⟨fd26, F26⟩ := c.def_ 26 (d := d_Form_weight) rfl
  obtain ⟨fd27, F27⟩ := c.def_ 27 (d := d_FormU_addU) rfl
  obtain ⟨fd28, F28⟩ := c.def_ 28 (d := d_FormU_subU) rfl
  obtain ⟨fd29, F29⟩ := c.def_ 29 (d := d_FormU_mulU) rfl
  obtain ⟨fd30, F30⟩ := c.def_ 30 (d := d_FormU_negU) rfl
  obtain ⟨fd31, F31⟩ := c.def_ 31 (d := d_Form_over) rfl
  obtain ⟨fd32, F32⟩ := c.def_ 32 (d := d_FormU_eqU) rfl
  obtain ⟨fd33, F33⟩ := c.def_ 33 (d := d_FormU_strU) rfl
  obtain ⟨fd34, F34⟩ := c.def_ 34 (d := d_FormU_reprU) rfl
  obtain ⟨fd35, F35⟩ := c.def_ 35 (d := d_maps_symbols_to_amounts) rfl
  obtain ⟨fd36, F36⟩ := c.def_ 36 (d := d_form_of) rfl
  obtain ⟨fd37, F37⟩ := c.def_ 37 (d := d_form_text) rfl
  obtain ⟨fd38, F38⟩ := c.def_ 38 (d := d_term_text) rfl
  obtain ⟨fd39, F39⟩ := c.def_ 39 (d := d_unsigned_text) rfl
  obtain ⟨fd40, F40⟩ := c.def_ 40 (d := d_l_pot) rfl
  obtain ⟨fd41, F41⟩ := c.def_ 41 (d := d_l_digit) rfl
  obtain ⟨fd42, F42⟩ := c.def_ 42 (d := d_l_pick) rfl
  obtain ⟨fd43, F43⟩ := c.def_ 43 (d := d_l_whole) rfl
  obtain ⟨fd44, F44⟩ := c.def_ 44 (d := d_l_pair) rfl
  obtain ⟨fd45, F45⟩ := c.def_ 45 (d := d_l_lowest) rfl
  obtain ⟨fd46, F46⟩ := c.def_ 46 (d := d_l_sum) rfl
  obtain ⟨fd47, F47⟩ := c.def_ 47 (d := d_l_product) rfl
  obtain ⟨fd48, F48⟩ := c.def_ 48 (d := d_l_clean) rfl
  obtain ⟨fd49, F49⟩ := c.def_ 49 (d := d_l_drawn) rfl
  obtain ⟨fd50, F50⟩ := c.def_ 50 (d := d_l_form) rfl
  obtain ⟨fd51, F51⟩ := c.def_ 51 (d := d_l_amount_text) rfl
  obtain ⟨fd52, F52⟩ := c.def_ 52 (d := d_l_text) rfl
  obtain ⟨fd53, F53⟩ := c.def_ 53 (d := d_l_shown) rfl
  obtain ⟨fd54, F54⟩ := c.def_ 54 (d := d_l_is) rfl
  obtain ⟨fd55, F55⟩ := c.def_ 55 (d := d_l_joined) rfl
  obtain ⟨fd56, F56⟩ := c.def_ 56 (d := d_l_scaled) rfl
  obtain ⟨fd57, F57⟩ := c.def_ 57 (d := d_l_step) rfl
  obtain ⟨fd58, F58⟩ := c.def_ 58 (d := d_l_right) rfl
  obtain ⟨fd59, F59⟩ := c.def_ 59 (d := d_law) rfl
  obtain ⟨x0, x⟩ := He.ba x
  obtain ⟨x1, x⟩ := He.ba x
  obtain ⟨x2, x⟩ := He.ba x
  obtain ⟨x3, x⟩ := He.ba x
  obtain ⟨x4, x⟩ := He.ba x
  obtain ⟨x5, x⟩ := He.ba x
  obtain ⟨x6, x⟩ := He.ba x
  obtain ⟨x7, x⟩ := He.ba x
  obtain ⟨x8, x⟩ := He.ba x
  obtain ⟨x9, x⟩ := He.ba x
  obtain ⟨x10, x⟩ := He.ba x
  obtain ⟨x11, x⟩ := He.ba x
  obtain ⟨x12, x⟩ := He.ba x
  obtain ⟨x13, x⟩ := He.ba x
  obtain ⟨x14, x⟩ := He.ba x
  obtain ⟨x15, x⟩ := He.ba x
  obtain ⟨x16, x⟩ := He.ba x
  obtain ⟨x17, x⟩ := He.ba x
  obtain ⟨x18, x⟩ := He.ba x
  obtain ⟨x19, x⟩ := He.ba x
  obtain ⟨x20, x⟩ := He.ba x
  obtain ⟨x21, x⟩ := He.ba x
  obtain ⟨x22, x⟩ := He.ba x
  obtain ⟨x23, x⟩ := He.ba x
  obtain ⟨x24, x⟩ := He.ba x
  obtain ⟨x25, x⟩ := He.ba x
  obtain ⟨x26, x⟩ := He.ba x
  obtain ⟨x27, x⟩ := He.ba x
  obtain ⟨x28, x⟩ := He.ba x
  obtain ⟨x29, x⟩ := He.ba x
  obtain ⟨x30, x⟩ := He.ba x
  obtain ⟨x31, x⟩ := He.ba x
  obtain ⟨x32, x⟩ := He.ba x
  obtain ⟨x33, x⟩ := He.ba x
  obtain ⟨x34, x⟩ := He.ba x
  obtain ⟨x35, x⟩ := He.ba x
  have x36 := x
  exact ⟨⟨fd0, fd1, fd2, fd3, fd4, fd5, fd6, fd7, fd8, fd9, fd10, fd11, fd12, fd13, fd14, fd15, fd16, fd17, fd18, fd19, fd20, fd21, fd22, fd23, fd24, fd25, fd26, fd27, fd28, fd29, fd30, fd31, fd32, fd33, fd34, fd35, fd36, fd37, fd38, fd39, fd40, fd41, fd42, fd43, fd44, fd45, fd46, fd47, fd48, fd49, fd50, fd51, fd52, fd53, fd54, fd55, fd56, fd57, fd58, fd59, F0, F1, F2, F3, F4, F5, F6, F7, F8, F9, F10, F11, F12, F13, F14, F15, F16, F17, F18, F19, F20, F21, F22, F23, F24, F25, F26, F27, F28, F29, F30, F31, F32, F33, F34, F35, F36, F37, F38, F39, F40, F41, F42, F43, F44, F45, F46, F47, F48, F49, F50, F51, F52, F53, F54, F55, F56, F57, F58, F59, (He.free_ok X G (c.fact 0 (f := .free "abs") rfl)), (He.free_ok X G (c.fact 1 (f := .free "all") rfl)), (He.free_ok X G (c.fact 2 (f := .free "bool") rfl)), (He.free_ok X G (c.fact 3 (f := .free "dict") rfl)), (He.free_ok X G (c.fact 4 (f := .free "divmod") rfl)), (He.free_ok X G (c.fact 5 (f := .free "int") rfl)), (He.free_ok X G (c.fact 6 (f := .free "isinstance") rfl)), (He.free_ok X G (c.fact 7 (f := .free "len") rfl)), (He.free_ok X G (c.fact 8 (f := .free "list") rfl)), (He.free_ok X G (c.fact 9 (f := .free "max") rfl)), (He.free_ok X G (c.fact 10 (f := .free "min") rfl)), (He.free_ok X G (c.fact 11 (f := .free "range") rfl)), (He.free_ok X G (c.fact 12 (f := .free "repr") rfl)), (He.free_ok X G (c.fact 13 (f := .free "sorted") rfl)), (He.free_ok X G (c.fact 14 (f := .free "str") rfl)), (He.free_ok X G (c.fact 15 (f := .free "zip") rfl)), (He.glo_ok X G (c.fact 16 (f := .glo "is_whole") rfl)), (He.glo_ok X G (c.fact 17 (f := .glo "has_only") rfl)), (He.glo_ok X G (c.fact 18 (f := .glo "is_amount") rfl)), (He.glo_ok X G (c.fact 19 (f := .glo "amount_of") rfl)), (He.glo_ok X G (c.fact 20 (f := .glo "is_symbol") rfl)), (He.glo_ok X G (c.fact 21 (f := .glo "maps_symbols_to_amounts") rfl)), (He.glo_ok X G (c.fact 22 (f := .glo "form_of") rfl)), (He.glo_ok X G (c.fact 23 (f := .glo "form_text") rfl)), (He.glo_ok X G (c.fact 24 (f := .glo "term_text") rfl)), (He.glo_ok X G (c.fact 25 (f := .glo "unsigned_text") rfl)), (He.glo_ok X G (c.fact 26 (f := .glo "_law_pot") rfl)), (He.glo_ok X G (c.fact 27 (f := .glo "_law_digit") rfl)), (He.glo_ok X G (c.fact 28 (f := .glo "_law_pick") rfl)), (He.glo_ok X G (c.fact 29 (f := .glo "_law_whole") rfl)), (He.glo_ok X G (c.fact 30 (f := .glo "_law_pair") rfl)), (He.glo_ok X G (c.fact 31 (f := .glo "_law_lowest") rfl)), (He.glo_ok X G (c.fact 32 (f := .glo "_law_sum") rfl)), (He.glo_ok X G (c.fact 33 (f := .glo "_law_product") rfl)), (He.glo_ok X G (c.fact 34 (f := .glo "_law_clean") rfl)), (He.glo_ok X G (c.fact 35 (f := .glo "_law_drawn") rfl)), (He.glo_ok X G (c.fact 36 (f := .glo "_law_form") rfl)), (He.glo_ok X G (c.fact 37 (f := .glo "_law_amount_text") rfl)), (He.glo_ok X G (c.fact 38 (f := .glo "_law_text") rfl)), (He.glo_ok X G (c.fact 39 (f := .glo "_law_shown") rfl)), (He.glo_ok X G (c.fact 40 (f := .glo "_law_is") rfl)), (He.glo_ok X G (c.fact 41 (f := .glo "_law_joined") rfl)), (He.glo_ok X G (c.fact 42 (f := .glo "_law_scaled") rfl)), (He.glo_ok X G (c.fact 43 (f := .glo "_law_step") rfl)), (He.glo_ok X G (c.fact 44 (f := .glo "_law_right") rfl)), (He.glo_ok X G (c.fact 45 (f := .glo "law") rfl)), (He.glo_ok X G (c.fact 46 (f := .glo "Amount") rfl)), (He.cls_ok (c.fact 47 (f := .cls "Amount") rfl)), (He.mkr_ok (c.fact 48 (f := .mkr "Amount") rfl)), (He.noat_ok (c.fact 49 (f := .noat "Amount" "_top") rfl)), (He.noat_ok (c.fact 50 (f := .noat "Amount" "_bottom") rfl)), (He.meth_ok (c.fact 51 (f := .meth "Amount" "over") rfl)), (He.meth_ok (c.fact 52 (f := .meth "Amount" "below") rfl)), (He.glo_ok X G (c.fact 53 (f := .glo "Form") rfl)), (He.cls_ok (c.fact 54 (f := .cls "Form") rfl)), (He.mkr_ok (c.fact 55 (f := .mkr "Form") rfl)), (He.noat_ok (c.fact 56 (f := .noat "Form" "_constant") rfl)), (He.noat_ok (c.fact 57 (f := .noat "Form" "_weights") rfl)), (He.meth_ok (c.fact 58 (f := .meth "Form" "terms") rfl)), (He.meth_ok (c.fact 59 (f := .meth "Form" "symbols") rfl)), (He.meth_ok (c.fact 60 (f := .meth "Form" "weight") rfl)), (He.meth_ok (c.fact 61 (f := .meth "Form" "over") rfl)), (He.str_ok X G (c.fact 62 (f := .str "LETTERS" "abcdefghijklmnopqrstuvwxyz") rfl)), (He.str_ok X G (c.fact 63 (f := .str "DIGITS" "0123456789") rfl)), (He.int_ok X G (c.fact 64 (f := .int "LONGEST_SYMBOL" 24) rfl)), (propB_ok x0), (propB_ok x1), (propB_ok x2), (opB_ok x3), (opB_ok x4), (opB_ok x5), (fnB_ok x6), (fnB_ok x7), (fnB_ok x8), (eqB_ok x9), (neB_ok x10), (isiB_ok x11), (kitTB_ok x12), (propB_ok x13), (propB_ok x14), (propB_ok x15), (opB_ok x16), (opB_ok x17), (opB_ok x18), (fnB_ok x19), (fnB_ok x20), (fnB_ok x21), (eqB_ok x22), (neB_ok x23), (isiB_ok x24), (kitTB_ok x25), (twoB_ok x26), (twoB_ok x27), (twoB_ok x28), (eqTwoB_ok x29), (eqTwoB_ok x30), (kitOB_ok x31), (kitOB_ok x32), (kitTB_ok x33), (crB_ok x34), (cmB_ok x35), (smB_ok x36), (xl_fn (id := "math.gcd") XX (by kernel_rfl))⟩, trivial⟩
/-! ### amounts -/
def amtF (t b : Int) : List (Str × V) := putF "_bottom" (.int b) (putF "_top" (.int t) [])
theorem amtF_top (t b : Int) : (amtF t b).lookup ("_top" : Str) = some (.int t) := by
  unfold amtF
  rw [lookup_putF, if_neg (by decide +kernel), lookup_putF, if_pos rfl]
theorem amtF_bottom (t b : Int) : (amtF t b).lookup ("_bottom" : Str) = some (.int b) := by
  unfold amtF
  rw [lookup_putF, if_pos rfl]
theorem amtF_no (t b : Int) {m : Str} (h1 : ¬ m = "_bottom") (h2 : ¬ m = "_top") : (amtF t b).lookup m = none := by
  unfold amtF
  rw [lookup_putF, if_neg h1, lookup_putF, if_neg h2]
  rfl
/-- the Amount t / b (as it is stored) stands at a -/
def AmtAt (K : PySem.W.Frag) (H : Hp) (a : Addr) (t b : Int) : Prop := ∃ dx, H a = some (.ins (He.ga K "Amount") dx (amtF t b))
theorem AmtAt.same {K : PySem.W.Frag} {H H' : Hp} {a : Addr} {t b : Int} (h : AmtAt K H a t b) (s : Same H H') : AmtAt K H' a t b := let ⟨dx, e⟩ := h; ⟨dx, s a _ e⟩
theorem AmtAt.ins {K : PySem.W.Frag} {H : Hp} {a : Addr} {t b : Int} (h : AmtAt K H a t b) : InsAt (He.ga K "Amount") H a := let ⟨dx, e⟩ := h; ⟨dx, _, e⟩
/-- a value that stands for the amount: an Amount, or an integer -/
def AmtV (K : PySem.W.Frag) (H : Hp) (v : V) (t b : Int) : Prop := (∃ a, v = .ref a ∧ AmtAt K H a t b) ∨ (v = .int t ∧ b = 1)
theorem AmtV.same {K : PySem.W.Frag} {H H' : Hp} {v : V} {t b : Int} (h : AmtV K H v t b) (s : Same H H') : AmtV K H' v t b := by
  rcases h with ⟨a, e, h⟩ | h
  · exact .inl ⟨a, e, h.same s⟩
  · exact .inr h
theorem AmtV.op {K : PySem.W.Frag} {H : Hp} {v : V} {t b : Int} (h : AmtV K H v t b) : (∃ b, v = .ref b ∧ InsAt (He.ga K "Amount") H b) ∨ ∃ T, plT v = some T ∧ T ∈ ["int"] := by
  rcases h with ⟨a, e, h⟩ | ⟨e, _⟩
  · exact .inl ⟨a, e, h.ins⟩
  · exact .inr ⟨"int", by rw [e]; rfl, by simp⟩
/-! promises -/
def sp_whole : Sp := fun vs H Q _ => ∃ i, vs = [.int i] ∧ Q (.bl true) H
def sp_init (K : PySem.W.Frag) : Sp := fun vs H Q _ => ∃ p dx t b, vs = [.ref p, .int t, .int b] ∧ H p = some (.ins (He.ga K "Amount") dx []) ∧ b ≠ 0 ∧ Sz 8000 b ∧
  ∀ H', (∀ c o, c ≠ p → H c = some o → H' c = some o) → H' p = some (.ins (He.ga K "Amount") dx (amtF (low t b).1 (low t b).2)) → Q .non H'
def sp_get (K : PySem.W.Frag) (f : Int → Int → Int) : Sp := fun vs H Q _ => ∃ a t b, vs = [.ref a] ∧ AmtAt K H a t b ∧ Q (.int (f t b)) H
def sgn (t : Int) : Int := if t = 0 then 0 else if 0 < t then 1 else -1
def sp_of (K : PySem.W.Frag) : Sp := fun vs H Q _ => ∃ v t b, vs = [v] ∧ AmtV K H v t b ∧ ∀ a H', Same H H' → AmtAt K H' a t b → Q (.ref a) H'
/-- an operation on two amounts that makes one -/
def sp_op2 (K : PySem.W.Frag) (ok : Int → Int → Int → Int → Prop) (f g : Int → Int → Int → Int → Int) : Sp := fun vs H Q _ => ∃ a v t b t2 b2, vs = [.ref a, v] ∧ AmtAt K H a t b ∧ AmtV K H v t2 b2 ∧ (Sz 1800 t ∧ Sz 1800 b ∧ Sz 1800 t2 ∧ Sz 1800 b2) ∧ b ≠ 0 ∧ b2 ≠ 0 ∧ ok t b t2 b2 ∧
  ∀ p H', Same H H' → AmtAt K H' p (low (f t b t2 b2) (g t b t2 b2)).1 (low (f t b t2 b2) (g t b t2 b2)).2 → Q (.ref p) H'
def sp_neg (K : PySem.W.Frag) : Sp := fun vs H Q _ => ∃ a t b, vs = [.ref a] ∧ AmtAt K H a t b ∧ Sz 8000 b ∧ b ≠ 0 ∧ ∀ p H', Same H H' → AmtAt K H' p (low (-t) b).1 (low (-t) b).2 → Q (.ref p) H'
def sp_below (K : PySem.W.Frag) : Sp := fun vs H Q _ => ∃ a v t b t2 b2, vs = [.ref a, v] ∧ AmtAt K H a t b ∧ AmtV K H v t2 b2 ∧ (Sz 1800 t ∧ Sz 1800 b ∧ Sz 1800 t2 ∧ Sz 1800 b2) ∧
  ∀ H', Same H H' → Q (.bl (decide (t * b2 < t2 * b))) H'
def sp_eq (K : PySem.W.Frag) : Sp := fun vs H Q _ => ∃ a t b, (∃ c t2 b2, vs = [.ref a, .ref c] ∧ AmtAt K H c t2 b2 ∧ AmtAt K H a t b ∧ Q (.bl (decide (t = t2 ∧ b = b2))) H) ∨ (∃ y, vs = [.ref a, y] ∧ ((∃ i, y = .int i) ∨ ∃ f, y = .ref f ∧ InsAt (He.ga K "Form") H f) ∧ AmtAt K H a t b ∧ Q (.bl false) H)
def amtS (t b : Int) : Str := if b = 1 then toString t else Str.empty ++ toString t ++ "/" ++ toString b
def amtR (t b : Int) : Str := Str.empty ++ "Amount(" ++ toString t ++ ", " ++ toString b ++ ")"
def sp_text (K : PySem.W.Frag) (f : Int → Int → Str) : Sp := fun vs H Q _ => ∃ a t b, vs = [.ref a] ∧ AmtAt K H a t b ∧ Sz 1900 t ∧ Sz 1900 b ∧ Q (.str (f t b)) H
theorem use_whole {H : Hp} {Q : VK} {E : XK} {i : Int} (q : Q (.bl true) H) : sp_whole ([.int i] ++ []) H Q E := ⟨i, rfl, q⟩
theorem use_get {K : PySem.W.Frag} {f : Int → Int → Int} {H : Hp} {Q : VK} {E : XK} {a : Addr} {t b : Int} (h : AmtAt K H a t b) (q : Q (.int (f t b)) H) : sp_get K f [.ref a] H Q E := ⟨a, t, b, rfl, h, q⟩
theorem use_of {K : PySem.W.Frag} {H : Hp} {Q : VK} {E : XK} {v : V} {t b : Int} (h : AmtV K H v t b) (q : ∀ a H', Same H H' → AmtAt K H' a t b → Q (.ref a) H') : sp_of K ([v] ++ []) H Q E := ⟨v, t, b, rfl, h, q⟩
/-- Amount(t, b) -/
theorem use_make {K : PySem.W.Frag} {H : Hp} {R : Addr → Hp → Prop} {E : XK} {t b : Int} {vs : List V} (e : vs = [.int t, .int b]) (hb : b ≠ 0) (hz : Sz 8000 b) (q : ∀ a H', Same H H' → H a = none → AmtAt K H' a (low t b).1 (low t b).2 → R a H') :
    ∀ x dx, H x = none → H dx = none → dx ≠ x → sp_init K (.ref x :: vs) (upd (upd H dx (.own x)) x (.ins (He.ga K "Amount") dx [])) (fun v H2 => v = .non ∧ R x H2) E := by
  subst e
  intro x dx hx hdx hne
  refine ⟨x, dx, t, b, rfl, upd_same, hb, hz, fun H' keep at_ => ⟨rfl, q x H' (fun c o ec => ?_) hx ⟨dx, at_⟩⟩⟩
  have n1 : c ≠ x := ne_of_none ec hx
  have n2 : c ≠ dx := ne_of_none ec hdx
  exact keep c o n1 (by rw [upd_ne n1, upd_ne n2]; exact ec)
theorem r_prA {K : PySem.W.Frag} {H : Hp} {Q : VK} {E : XK} {a : Addr} {t b : Int} {f : Int → Int → Int} (h : AmtAt K H a t b) (q : Q (.int (f t b)) H) :
    ∃ a' dx fs, V.ref a = .ref a' ∧ H a' = some (.ins (He.ga K "Amount") dx fs) ∧ sp_get K f [.ref a'] H Q E := by
  obtain ⟨dx, e⟩ := id h
  exact ⟨a, dx, _, rfl, e, a, t, b, rfl, h, q⟩
theorem r_flA {K : PySem.W.Frag} {H : Hp} {Q : V → Prop} {a : Addr} {t b : Int} (h : AmtAt K H a t b) (c : Cls K (He.ga K "Amount")) (na : NoAttr K (He.ga K "Amount") "_top") (q : Q (.int t)) :
    ∃ a' C dx fs v, V.ref a = .ref a' ∧ H a' = some (.ins C dx fs) ∧ Cls K C ∧ NoAttr K C "_top" ∧ fs.lookup ("_top" : Str) = some v ∧ Q v := let ⟨dx, e⟩ := h; ⟨a, _, dx, _, _, rfl, e, c, na, amtF_top t b, q⟩
theorem r_flB {K : PySem.W.Frag} {H : Hp} {Q : V → Prop} {a : Addr} {t b : Int} (h : AmtAt K H a t b) (c : Cls K (He.ga K "Amount")) (na : NoAttr K (He.ga K "Amount") "_bottom") (q : Q (.int b)) :
    ∃ a' C dx fs v, V.ref a = .ref a' ∧ H a' = some (.ins C dx fs) ∧ Cls K C ∧ NoAttr K C "_bottom" ∧ fs.lookup ("_bottom" : Str) = some v ∧ Q v := let ⟨dx, e⟩ := h; ⟨a, _, dx, _, _, rfl, e, c, na, amtF_bottom t b, q⟩
theorem ln0 : (Str.empty).length = 0 := by decide +kernel
theorem ln1 : (Str.ofString "/").length = 1 := by decide +kernel
theorem ln2 : (Str.ofString "Amount(").length = 7 := by decide +kernel
theorem ln3 : (Str.ofString ", ").length = 2 := by decide +kernel
theorem ln4 : (Str.ofString ")").length = 1 := by decide +kernel
theorem lnL : sizeLine = 16777216 := by decide +kernel

local macro_rules
  | `(tactic| walk_at "rdv") => `(tactic| first
    | with_reducible refine r_v0 ?_
    | with_reducible refine r_v1 ?_
    | with_reducible refine r_v2 ?_
    | with_reducible refine r_v3 ?_
    | with_reducible refine r_v4 ?_
    | with_reducible refine r_v5 ?_
    | with_reducible refine r_v6 ?_
    | with_reducible refine r_v7 ?_
    | with_reducible refine r_v8 ?_
    | with_reducible refine r_v9 ?_
    | with_reducible refine r_v10 ?_
    | with_reducible refine r_v11 ?_
    | with_reducible refine r_v12 ?_
    | with_reducible refine r_v13 ?_
    | with_reducible refine r_v14 ?_
    | with_reducible refine r_v15 ?_
    | with_reducible refine r_v16 ?_
    | with_reducible refine r_v17 ?_
    | with_reducible refine r_v18 ?_
    | with_reducible refine r_v19 ?_
    | with_reducible refine r_v20 ?_
    | with_reducible refine r_v21 ?_
    | with_reducible refine r_v22 ?_
    | with_reducible refine r_v23 ?_
    | with_reducible refine r_v24 ?_
    | with_reducible refine r_v25 ?_)
local macro_rules
  | `(tactic| walk_at "rds") => `(tactic| first
    | with_reducible refine r_s0 ?_
    | with_reducible refine r_s1 ?_
    | with_reducible refine r_s2 ?_
    | with_reducible refine r_s3 ?_
    | with_reducible refine r_s4 ?_
    | with_reducible refine r_s5 ?_
    | with_reducible refine r_s6 ?_
    | with_reducible refine r_s7 ?_
    | with_reducible refine r_s8 ?_
    | with_reducible refine r_s9 ?_
    | with_reducible refine r_s10 ?_
    | with_reducible refine r_s11 ?_
    | with_reducible refine r_s12 ?_
    | with_reducible refine r_s13 ?_
    | with_reducible refine r_s14 ?_
    | with_reducible refine r_s15 ?_
    | with_reducible refine r_s16 ?_
    | with_reducible refine r_s17 ?_
    | with_reducible refine r_s18 ?_
    | with_reducible refine r_s19 ?_
    | with_reducible refine r_s20 ?_
    | with_reducible refine r_s21 ?_
    | with_reducible refine r_s22 ?_
    | with_reducible refine r_s23 ?_
    | with_reducible refine r_s24 ?_
    | with_reducible refine r_s25 ?_)
local macro_rules
  | `(tactic| walk_at "rd") => `(tactic| first
    | with_reducible refine r_seq ?_
    | with_reducible refine r_asg ?_
    | with_reducible refine r_ret ?_
    | with_reducible refine r_drop ?_
    | with_reducible refine r_next ?_
    | with_reducible refine r_ifS ?_
    | with_reducible refine r_par ?_
    | ((with_reducible refine r_parAt ?_); dsimp only [List.set])
    | walk_at "rdv"
    | with_reducible refine r_c ?_
    | with_reducible refine r_op ?_
    | with_reducible refine r_un ?_
    | with_reducible refine r_test ?_
    | with_reducible refine r_tB ?_
    | with_reducible refine r_and ?_
    | with_reducible refine r_or ?_
    | with_reducible refine r_not ?_
    | with_reducible refine r_andV ?_
    | with_reducible refine r_orV ?_
    | with_reducible refine r_notV ?_
    | with_reducible refine r_if ?_
    | with_reducible refine iteT ?_
    | with_reducible refine r_nT ?_
    | with_reducible refine r_nF ?_
    | with_reducible refine iteF ?_
    | with_reducible refine r_CB ?_
    | with_reducible refine r_nil ?_
    | with_reducible refine r_cons ?_
    | with_reducible refine r_tup ?_
    | with_reducible refine r_lst ?_
    | (with_reducible refine r_I0 ?_)
    | (with_reducible refine r_U ?_)
    | with_reducible refine r_eqI ?_
    | with_reducible refine r_neI ?_
    | with_reducible refine r_eqS ?_
    | with_reducible refine r_neS ?_
    | with_reducible refine r_gcd ?_
    | with_reducible refine r_abs ?_
    | with_reducible refine r_max ?_
    | with_reducible refine r_min ?_
    | with_reducible refine r_int ?_
    | with_reducible refine r_intB ?_
    | with_reducible refine r_reprB ?_
    | with_reducible refine q_int ?_
    | with_reducible refine q_intB ?_
    | with_reducible refine q_1 ?_
    | with_reducible refine r_for ?_
    | with_reducible refine r_rng1 ?_
    | with_reducible refine r_itl ?_
    | with_reducible refine r_zip ?_
    | with_reducible refine r_lc ?_
    | with_reducible refine q_2 ?_
    | refine q_len (.inl (.inl (by assumption))) ?_
    | refine r_fld ?_
    | with_reducible refine r_prop ?_
    | with_reducible refine r_call ?_
    | with_reducible refine r_meth ?_
    | with_reducible refine r_make ?_
    | walk_at "rds"
    | with_reducible refine r_gnil ?_
    | with_reducible refine r_gcons ?_
    | with_reducible refine r_gsub ?_
    | with_reducible refine r_fmt ?_
    | with_reducible refine r_js0 ?_
    | with_reducible refine r_js ?_
    | with_reducible refine r_fieldS ?_
    | with_reducible refine r_blV ?_
    | ((with_reducible refine r_I ?sd ?_); (case sd => walk_at "sd"))
    | dsimp only [L2.wipe, List.set])
local macro_rules
  | `(tactic| walk_at "sd") => `(tactic| first
    | assumption
    | (show (0 : Int) < _; decide)
    | (show (0 : Int) < _; omega)
    | (refine ⟨?_, ?_⟩ <;> first | decide | omega))
local macro_rules
  | `(tactic| walk_at "st") => `(tactic| simp only [L2.cxOf, L2.start, List.map_cons, List.map_nil, List.length_cons, List.length_nil, Nat.reduceAdd, Nat.reduceSub, List.replicate_succ, List.replicate_zero, List.cons_append, List.nil_append, Nat.sub_self, Nat.add_one_sub_one, List.replicate])

local macro_rules
  | `(tactic| walk_at "rd") => `(tactic| first
    | with_reducible refine use_whole ?_
    | refine r_prA (by assumption) ?_
    | refine r_flA (by assumption) (by walk_at "cA") (by walk_at "nT") ?_
    | refine r_flB (by assumption) (by walk_at "cA") (by walk_at "nB") ?_)
local macro_rules
  | `(tactic| walk_at "cA") => `(tactic| exact Tx.c_Amount (by assumption))
local macro_rules
  | `(tactic| walk_at "nT") => `(tactic| exact Tx.n_Amount_top (by assumption))
local macro_rules
  | `(tactic| walk_at "nB") => `(tactic| exact Tx.n_Amount_bottom (by assumption))
local macro_rules
  | `(tactic| walk_at "len") => `(tactic| (simp only [PySem.Str.length_append, ln0, ln1, ln2, ln3, ln4, lnL]; omega))

section
variable {P : Program} {w : World} {K : PySem.W.Frag} {mg : Str → Option Value} {base : Heap}
theorem sc_is_whole : FnScope ["value"] ["value"] (defScope s_is_whole) := ⟨rfl, rfl, rfl, by decide +kernel, rfl, by decide +kernel, by decide +kernel⟩
theorem ok_is_whole {gg : Bool} (T : Tx K mg) : FnG P w K mg base CX0 gg 1 (He.ga K "is_whole") T.fd_is_whole ["value"] (sp_whole) := by
  refine funG T.F_is_whole sc_is_whole (fun vs H Q E h => ?_) (fun cdv A outer s H vs Q E hr hg h => ?_)
  · obtain ⟨i, e, _⟩ := h; rw [e]; rfl
  · obtain ⟨i, rfl, k⟩ := h
    refine ⟨_, (pss_one (ps_ret (pe_and (pe_callB call_isi (by rfl) T.m_isinstance (by decide +kernel) (pa_cons (pv 0) (pa_cons (pe_bltn (v := .ty "int") (u := .type "int") (by rfl) T.m_int (by decide +kernel) rfl) pa_nil))) (pe_one (pe_not (pe_callB call_isi (by rfl) T.m_isinstance (by decide +kernel) (pa_cons (pv 0) (pa_cons (pe_bltn (v := .ty "bool") (u := .type "bool") (by rfl) T.m_bool (by decide +kernel) rfl) pa_nil)))))))), ?_⟩
    walk_at "st"
    repeat walk_at "rd"
    refine r_isi (b := true) ty_int (.ty _) (kit_ty (by decide +kernel)) ?_
    repeat walk_at "rd"
    refine r_isi (b := false) ty_int (.ty _) (kit_ty (by decide +kernel)) ?_
    repeat walk_at "rd"
    exact k
local macro_rules
  | `(tactic| walk_at "init") => `(tactic| repeat walk_at "rd")
local macro_rules
  | `(tactic| walk_at "init2") => `(tactic| (repeat walk_at "rd"); refine r_fieldAt (by assumption) (by walk_at "cA") (by walk_at "nT") (by show 0 < 1000; decide) ?_; (repeat walk_at "rd"))
theorem sc_AmountU_initU : FnScope ["self", "top", "bottom", "common"] ["self", "top", "bottom"] (defScope s_AmountU_initU) := ⟨rfl, rfl, rfl, by decide +kernel, rfl, by decide +kernel, by decide +kernel⟩
theorem ok_AmountU_initU {gg : Bool} (T : Tx K mg) : FnG P w K mg base CX0 gg 2 (He.ma K (He.ga K "Amount") "__init__") T.fd_AmountU_initU ["self", "top", "bottom"] (sp_init K) := by
  refine funG T.F_AmountU_initU sc_AmountU_initU (fun vs H Q E h => ?_) (fun cdv A outer s H vs Q E hr hg h => ?_)
  · obtain ⟨p, dx, t, b, e, _⟩ := h; rw [e]; rfl
  · obtain ⟨p, dx, t, b, rfl, hp, hb, hz, k⟩ := h
    refine ⟨_, (pss_cons (ps_if (pt_not (pt_val (pg_call (ok_is_whole T) (hr.mono (by decide)) hg (by rfl) T.g_is_whole T.F_is_whole.kp T.b_is_whole .nil pass0 (pa_cons (pv 1) pa_nil)))) (pss_one ps_never) pss_nil)
    (pss_cons (ps_if (PW.pt (pw_or (pt_not (pt_val (pg_call (ok_is_whole T) (hr.mono (by decide)) hg (by rfl) T.g_is_whole T.F_is_whole.kp T.b_is_whole .nil pass0 (pa_cons (pv 2) pa_nil)))) (pw_or1 (pt_cmpR op_eq (pv 2) pe_int (nomark _))))) (pss_one ps_never) pss_nil)
    (pss_cons (ps_set (i := 3) sc_AmountU_initU.nd rfl (by first | exact Or.inl rfl | exact Or.inr rfl) (pe_callBfun cr_gcd (by rfl) T.g_gcd (pa_cons (pv 1) (pa_cons (pv 2) pa_nil))))
    (pss_cons (ps_if (pt_cmpR op_lt (pv 2) pe_int (nomark _)) (pss_one (ps_set (i := 3) sc_AmountU_initU.nd rfl (by first | exact Or.inl rfl | exact Or.inr rfl) (pe_un un_neg (pv 3)))) pss_nil)
    (pss_cons (ps_fld (pv 0) (pe_op op_fdivS (pv 1) (pv 3)) rfl)
    (pss_one (ps_fld (pv 0) (pe_op op_fdivS (pv 2) (pv 3)) rfl))))))), ?_⟩
    walk_at "st"
    repeat walk_at "rd"
    refine r_dec (fun e => absurd e hb) (fun _ => ?_)
    repeat walk_at "rd"
    have gz : ((Nat.gcd t.natAbs b.natAbs : Nat) : Int) ≠ 0 := by
      have h1 : 0 < Nat.gcd t.natAbs b.natAbs := Nat.gcd_pos_of_pos_right _ (by omega)
      omega
    have gs : Sz 8000 ((Nat.gcd t.natAbs b.natAbs : Nat) : Int) := hz.le (by
      have := Nat.le_of_dvd (by omega) (Nat.gcd_dvd_right t.natAbs b.natAbs)
      simpa using this)
    have gn := gs.neg
    refine r_dec (fun hneg => ?_) (fun hneg => ?_)
    · walk_at "init"
      refine r_I ⟨by omega, gn.log (by decide) (by decide)⟩ ?_
      walk_at "init2"
      refine r_I ⟨by omega, gn.log (by decide) (by decide)⟩ ?_
      repeat walk_at "rd"
      refine ⟨_, _, _, _, rfl, upd_same, Tx.c_Amount T, Tx.n_Amount_bottom T, Nat.lt_of_le_of_lt (length_putF _ _ []) (by decide), ?_⟩
      refine k _ (fun c o hc ec => ?_) (upd_same.trans ?_)
      · rw [upd_ne hc, upd_ne hc]; exact ec
      · unfold amtF low gd; rw [if_pos hneg]
    · walk_at "init"
      refine r_I ⟨gz, gs.log (by decide) (by decide)⟩ ?_
      walk_at "init2"
      refine r_I ⟨gz, gs.log (by decide) (by decide)⟩ ?_
      repeat walk_at "rd"
      refine ⟨_, _, _, _, rfl, upd_same, Tx.c_Amount T, Tx.n_Amount_bottom T, Nat.lt_of_le_of_lt (length_putF _ _ []) (by decide), ?_⟩
      refine k _ (fun c o hc ec => ?_) (upd_same.trans ?_)
      · rw [upd_ne hc, upd_ne hc]; exact ec
      · unfold amtF low gd; rw [if_neg hneg]
theorem sc_Amount_top : FnScope ["self"] ["self"] (defScope s_Amount_top) := ⟨rfl, rfl, rfl, by decide +kernel, rfl, by decide +kernel, by decide +kernel⟩
theorem ok_Amount_top {gg : Bool} (T : Tx K mg) : FnG P w K mg base CX0 gg 1 (pget K "Amount" "top") T.fd_Amount_top ["self"] (sp_get K fun t _ => t) := by
  refine funG T.F_Amount_top sc_Amount_top (fun vs H Q E h => ?_) (fun cdv A outer s H vs Q E hr hg h => ?_)
  · obtain ⟨a, t, b, e, _⟩ := h; rw [e]; rfl
  · obtain ⟨a, t, b, rfl, ha, k⟩ := h
    refine ⟨_, (pss_one (ps_ret (pe_fld (pv 0) rfl))), ?_⟩
    walk_at "st"
    repeat walk_at "rd"
    exact k
theorem sc_Amount_bottom : FnScope ["self"] ["self"] (defScope s_Amount_bottom) := ⟨rfl, rfl, rfl, by decide +kernel, rfl, by decide +kernel, by decide +kernel⟩
theorem ok_Amount_bottom {gg : Bool} (T : Tx K mg) : FnG P w K mg base CX0 gg 1 (pget K "Amount" "bottom") T.fd_Amount_bottom ["self"] (sp_get K fun _ b => b) := by
  refine funG T.F_Amount_bottom sc_Amount_bottom (fun vs H Q E h => ?_) (fun cdv A outer s H vs Q E hr hg h => ?_)
  · obtain ⟨a, t, b, e, _⟩ := h; rw [e]; rfl
  · obtain ⟨a, t, b, rfl, ha, k⟩ := h
    refine ⟨_, (pss_one (ps_ret (pe_fld (pv 0) rfl))), ?_⟩
    walk_at "st"
    repeat walk_at "rd"
    exact k
theorem sc_Amount_sign : FnScope ["self"] ["self"] (defScope s_Amount_sign) := ⟨rfl, rfl, rfl, by decide +kernel, rfl, by decide +kernel, by decide +kernel⟩
theorem ok_Amount_sign {gg : Bool} (T : Tx K mg) : FnG P w K mg base CX0 gg 1 (pget K "Amount" "sign") T.fd_Amount_sign ["self"] (sp_get K fun t _ => sgn t) := by
  refine funG T.F_Amount_sign sc_Amount_sign (fun vs H Q E h => ?_) (fun cdv A outer s H vs Q E hr hg h => ?_)
  · obtain ⟨a, t, b, e, _⟩ := h; rw [e]; rfl
  · obtain ⟨a, t, b, rfl, ha, k⟩ := h
    refine ⟨_, (pss_cons (ps_if (pt_cmpR op_eq (pe_fld (pv 0) rfl) pe_int (nomark _)) (pss_one (ps_ret pe_int)) pss_nil)
    (pss_one (ps_ret (pe_ifExp (pt_cmpR op_gt (pe_fld (pv 0) rfl) pe_int (nomark _)) pe_int (pe_un un_neg pe_int))))), ?_⟩
    walk_at "st"
    simp only [sgn] at k
    repeat walk_at "rd"
    refine r_dec (fun e => ?_) (fun e => ?_)
    · rw [if_pos e] at k
      repeat walk_at "rd"
      exact k
    · rw [if_neg e] at k
      repeat walk_at "rd"
      refine r_dec (fun e2 => ?_) (fun e2 => ?_)
      · rw [if_pos e2] at k
        repeat walk_at "rd"
        exact k
      · rw [if_neg e2] at k
        repeat walk_at "rd"
        exact k
theorem sc_amount_of : FnScope ["value"] ["value"] (defScope s_amount_of) := ⟨rfl, rfl, rfl, by decide +kernel, rfl, by decide +kernel, by decide +kernel⟩
theorem ok_amount_of {gg : Bool} (T : Tx K mg) : FnG P w K mg base CX0 gg 4 (He.ga K "amount_of") T.fd_amount_of ["value"] (sp_of K) := by
  refine funG T.F_amount_of sc_amount_of (fun vs H Q E h => ?_) (fun cdv A outer s H vs Q E hr hg h => ?_)
  · obtain ⟨v, t, b, e, _⟩ := h; rw [e]; rfl
  · obtain ⟨v, t, b, rfl, hv, k⟩ := h
    refine ⟨_, (pss_one (ps_ret (pe_ifExp (pt_val (pe_callB call_isi (by rfl) T.m_isinstance (by decide +kernel) (pa_cons (pv 0) (pa_cons (pe_glob (v := .ref (He.ga K "Amount")) (by rfl) T.g_Amount rfl) pa_nil)))) (pv 0) (pg_make T.k_Amount (ok_AmountU_initU T) (hr.mono (by decide)) hg (by rfl) T.g_Amount T.b_AmountU_initU_1.choose_spec.2 T.b_AmountU_initU_1.choose_spec.1 pass0 (pa_cons (pv 0) pa_nil))))), ?_⟩
    walk_at "st"
    repeat walk_at "rd"
    rcases hv with ⟨a, rfl, ha⟩ | ⟨rfl, rfl⟩
    · obtain ⟨dx, ea⟩ := id ha
      refine r_isi (b := true) (ty_own ea T.c_Amount T.i_Amount) (.own _) kit_self ?_
      repeat walk_at "rd"
      exact k a H (fun _ _ e => e) ha
    · refine r_isi (b := false) ty_int (.own _) T.kt_int_Amount ?_
      repeat walk_at "rd"
      refine use_make rfl (by decide) (by unfold Sz; decide +kernel) (fun a H' s hn h => ?_)
      rw [low_one] at h
      exact k a H' s h
theorem sc_AmountU_addU : FnScope ["self", "other"] ["self", "other"] (defScope s_AmountU_addU) := ⟨rfl, rfl, rfl, by decide +kernel, rfl, by decide +kernel, by decide +kernel⟩
theorem ok_AmountU_addU {gg : Bool} (T : Tx K mg) : FnG P w K mg base CX0 gg 5 (He.ma K (He.ga K "Amount") "__add__") T.fd_AmountU_addU ["self", "other"] (sp_op2 K (fun _ _ _ _ => True) (fun t b t2 b2 => t * b2 + t2 * b) (fun _ b _ b2 => b * b2)) := by
  refine funG T.F_AmountU_addU sc_AmountU_addU (fun vs H Q E h => ?_) (fun cdv A outer s H vs Q E hr hg h => ?_)
  · obtain ⟨a, v, t, b, t2, b2, e, _⟩ := h; rw [e]; rfl
  · obtain ⟨a, v, t, b, t2, b2, rfl, ha, hv, ⟨z1, z2, z3, z4⟩, h1, h2, _, k⟩ := h
    refine ⟨_, (pss_cons (ps_set (i := 1) sc_AmountU_addU.nd rfl (by first | exact Or.inl rfl | exact Or.inr rfl) (pg_call (ok_amount_of T) (hr.mono (by decide)) hg (by rfl) T.g_amount_of T.F_amount_of.kp T.b_amount_of .nil pass0 (pa_cons (pv 1) pa_nil)))
    (pss_one (ps_ret (pg_make T.k_Amount (ok_AmountU_initU T) (hr.mono (by decide)) hg (by rfl) T.g_Amount T.b_AmountU_initU .nil pass0 (pa_cons (pe_op op_add (pe_op op_mulW (pe_fld (pv 0) rfl) (pg_prop (pv 1) T.c_Amount T.p_Amount_bottom (ok_Amount_bottom T) (hr.mono (by decide)) hg T.b_Amount_bottom .nil pass0 rfl)) (pe_op op_mulW (pg_prop (pv 1) T.c_Amount T.p_Amount_top (ok_Amount_top T) (hr.mono (by decide)) hg T.b_Amount_top .nil pass0 rfl) (pe_fld (pv 0) rfl))) (pa_cons (pe_op op_mulW (pe_fld (pv 0) rfl) (pg_prop (pv 1) T.c_Amount T.p_Amount_bottom (ok_Amount_bottom T) (hr.mono (by decide)) hg T.b_Amount_bottom .nil pass0 rfl)) pa_nil)))))), ?_⟩
    walk_at "st"
    repeat walk_at "rd"
    refine use_of hv (fun c H1 s1 hc => ?_)
    have ha := ha.same s1
    repeat walk_at "rd"
    refine r_I (Sz.cm z1 z4 (by decide) (by decide) (by decide)) ?_
    repeat walk_at "rd"
    refine r_I (Sz.cm z3 z2 (by decide) (by decide) (by decide)) ?_
    repeat walk_at "rd"
    refine r_I (Sz.cm z2 z4 (by decide) (by decide) (by decide)) ?_
    repeat walk_at "rd"
    refine use_make rfl (Int.mul_ne_zero h1 h2) ((z2.mul z4).mono (by decide)) (fun p H2 s2 hn h => ?_)
    exact k p H2 (s1.trans s2) h
theorem sc_AmountU_subU : FnScope ["self", "other"] ["self", "other"] (defScope s_AmountU_subU) := ⟨rfl, rfl, rfl, by decide +kernel, rfl, by decide +kernel, by decide +kernel⟩
theorem ok_AmountU_subU {gg : Bool} (T : Tx K mg) : FnG P w K mg base CX0 gg 5 (He.ma K (He.ga K "Amount") "__sub__") T.fd_AmountU_subU ["self", "other"] (sp_op2 K (fun _ _ t2 _ => True) (fun t b t2 b2 => t * b2 - t2 * b) (fun t b t2 b2 => b * b2)) := by
  refine funG T.F_AmountU_subU sc_AmountU_subU (fun vs H Q E h => ?_) (fun cdv A outer s H vs Q E hr hg h => ?_)
  · obtain ⟨a, v, t, b, t2, b2, e, _⟩ := h; rw [e]; rfl
  · obtain ⟨a, v, t, b, t2, b2, rfl, ha, hv, ⟨z1, z2, z3, z4⟩, h1, h2, h3, k⟩ := h
    refine ⟨_, (pss_cons (ps_set (i := 1) sc_AmountU_subU.nd rfl (by first | exact Or.inl rfl | exact Or.inr rfl) (pg_call (ok_amount_of T) (hr.mono (by decide)) hg (by rfl) T.g_amount_of T.F_amount_of.kp T.b_amount_of .nil pass0 (pa_cons (pv 1) pa_nil)))
    (pss_one (ps_ret (pg_make T.k_Amount (ok_AmountU_initU T) (hr.mono (by decide)) hg (by rfl) T.g_Amount T.b_AmountU_initU .nil pass0 (pa_cons (pe_op op_sub (pe_op op_mulW (pe_fld (pv 0) rfl) (pg_prop (pv 1) T.c_Amount T.p_Amount_bottom (ok_Amount_bottom T) (hr.mono (by decide)) hg T.b_Amount_bottom .nil pass0 rfl)) (pe_op op_mulW (pg_prop (pv 1) T.c_Amount T.p_Amount_top (ok_Amount_top T) (hr.mono (by decide)) hg T.b_Amount_top .nil pass0 rfl) (pe_fld (pv 0) rfl))) (pa_cons (pe_op op_mulW (pe_fld (pv 0) rfl) (pg_prop (pv 1) T.c_Amount T.p_Amount_bottom (ok_Amount_bottom T) (hr.mono (by decide)) hg T.b_Amount_bottom .nil pass0 rfl)) pa_nil)))))), ?_⟩
    walk_at "st"
    repeat walk_at "rd"
    refine use_of hv (fun c H1 s1 hc => ?_)
    have ha := ha.same s1
    repeat walk_at "rd"
    refine r_I (Sz.cm z1 z4 (by decide) (by decide) (by decide)) ?_
    repeat walk_at "rd"
    refine r_I (Sz.cm z3 z2 (by decide) (by decide) (by decide)) ?_
    repeat walk_at "rd"
    refine r_I (Sz.cm z2 z4 (by decide) (by decide) (by decide)) ?_
    repeat walk_at "rd"
    refine use_make rfl (Int.mul_ne_zero h1 h2) ((z2.mul z4).mono (by decide)) (fun p H2 s2 hn h => ?_)
    exact k p H2 (s1.trans s2) h
theorem sc_AmountU_mulU : FnScope ["self", "other"] ["self", "other"] (defScope s_AmountU_mulU) := ⟨rfl, rfl, rfl, by decide +kernel, rfl, by decide +kernel, by decide +kernel⟩
theorem ok_AmountU_mulU {gg : Bool} (T : Tx K mg) : FnG P w K mg base CX0 gg 5 (He.ma K (He.ga K "Amount") "__mul__") T.fd_AmountU_mulU ["self", "other"] (sp_op2 K (fun _ _ t2 _ => True) (fun t b t2 b2 => t * t2) (fun t b t2 b2 => b * b2)) := by
  refine funG T.F_AmountU_mulU sc_AmountU_mulU (fun vs H Q E h => ?_) (fun cdv A outer s H vs Q E hr hg h => ?_)
  · obtain ⟨a, v, t, b, t2, b2, e, _⟩ := h; rw [e]; rfl
  · obtain ⟨a, v, t, b, t2, b2, rfl, ha, hv, ⟨z1, z2, z3, z4⟩, h1, h2, h3, k⟩ := h
    refine ⟨_, (pss_cons (ps_set (i := 1) sc_AmountU_mulU.nd rfl (by first | exact Or.inl rfl | exact Or.inr rfl) (pg_call (ok_amount_of T) (hr.mono (by decide)) hg (by rfl) T.g_amount_of T.F_amount_of.kp T.b_amount_of .nil pass0 (pa_cons (pv 1) pa_nil)))
    (pss_one (ps_ret (pg_make T.k_Amount (ok_AmountU_initU T) (hr.mono (by decide)) hg (by rfl) T.g_Amount T.b_AmountU_initU .nil pass0 (pa_cons (pe_op op_mulW (pe_fld (pv 0) rfl) (pg_prop (pv 1) T.c_Amount T.p_Amount_top (ok_Amount_top T) (hr.mono (by decide)) hg T.b_Amount_top .nil pass0 rfl)) (pa_cons (pe_op op_mulW (pe_fld (pv 0) rfl) (pg_prop (pv 1) T.c_Amount T.p_Amount_bottom (ok_Amount_bottom T) (hr.mono (by decide)) hg T.b_Amount_bottom .nil pass0 rfl)) pa_nil)))))), ?_⟩
    walk_at "st"
    repeat walk_at "rd"
    refine use_of hv (fun c H1 s1 hc => ?_)
    have ha := ha.same s1
    repeat walk_at "rd"
    refine r_I (Sz.cm z1 z3 (by decide) (by decide) (by decide)) ?_
    repeat walk_at "rd"
    refine r_I (Sz.cm z2 z4 (by decide) (by decide) (by decide)) ?_
    repeat walk_at "rd"
    refine use_make rfl (Int.mul_ne_zero h1 h2) ((z2.mul z4).mono (by decide)) (fun p H2 s2 hn h => ?_)
    exact k p H2 (s1.trans s2) h
theorem sc_Amount_over : FnScope ["self", "divisor", "other"] ["self", "divisor"] (defScope s_Amount_over) := ⟨rfl, rfl, rfl, by decide +kernel, rfl, by decide +kernel, by decide +kernel⟩
theorem ok_Amount_over {gg : Bool} (T : Tx K mg) : FnG P w K mg base CX0 gg 5 (He.ma K (He.ga K "Amount") "over") T.fd_Amount_over ["self", "divisor"] (sp_op2 K (fun _ _ t2 _ => t2 ≠ 0) (fun t b t2 b2 => t * b2) (fun t b t2 b2 => b * t2)) := by
  refine funG T.F_Amount_over sc_Amount_over (fun vs H Q E h => ?_) (fun cdv A outer s H vs Q E hr hg h => ?_)
  · obtain ⟨a, v, t, b, t2, b2, e, _⟩ := h; rw [e]; rfl
  · obtain ⟨a, v, t, b, t2, b2, rfl, ha, hv, ⟨z1, z2, z3, z4⟩, h1, h2, h3, k⟩ := h
    refine ⟨_, (pss_cons (ps_set (i := 2) sc_Amount_over.nd rfl (by first | exact Or.inl rfl | exact Or.inr rfl) (pg_call (ok_amount_of T) (hr.mono (by decide)) hg (by rfl) T.g_amount_of T.F_amount_of.kp T.b_amount_of .nil pass0 (pa_cons (pv 1) pa_nil)))
    (pss_cons (ps_if (pt_cmpR op_eq (pg_prop (pv 2) T.c_Amount T.p_Amount_top (ok_Amount_top T) (hr.mono (by decide)) hg T.b_Amount_top .nil pass0 rfl) pe_int (nomark _)) (pss_one ps_never) pss_nil)
    (pss_one (ps_ret (pg_make T.k_Amount (ok_AmountU_initU T) (hr.mono (by decide)) hg (by rfl) T.g_Amount T.b_AmountU_initU .nil pass0 (pa_cons (pe_op op_mulW (pe_fld (pv 0) rfl) (pg_prop (pv 2) T.c_Amount T.p_Amount_bottom (ok_Amount_bottom T) (hr.mono (by decide)) hg T.b_Amount_bottom .nil pass0 rfl)) (pa_cons (pe_op op_mulW (pe_fld (pv 0) rfl) (pg_prop (pv 2) T.c_Amount T.p_Amount_top (ok_Amount_top T) (hr.mono (by decide)) hg T.b_Amount_top .nil pass0 rfl)) pa_nil))))))), ?_⟩
    walk_at "st"
    repeat walk_at "rd"
    refine use_of hv (fun c H1 s1 hc => ?_)
    have ha := ha.same s1
    repeat walk_at "rd"
    refine r_dec (fun e => absurd e h3) (fun _ => ?_)
    repeat walk_at "rd"
    refine r_I (Sz.cm z1 z4 (by decide) (by decide) (by decide)) ?_
    repeat walk_at "rd"
    refine r_I (Sz.cm z2 z3 (by decide) (by decide) (by decide)) ?_
    repeat walk_at "rd"
    refine use_make rfl (Int.mul_ne_zero h1 h3) ((z2.mul z3).mono (by decide)) (fun p H2 s2 hn h => ?_)
    exact k p H2 (s1.trans s2) h
theorem sc_AmountU_negU : FnScope ["self"] ["self"] (defScope s_AmountU_negU) := ⟨rfl, rfl, rfl, by decide +kernel, rfl, by decide +kernel, by decide +kernel⟩
theorem ok_AmountU_negU {gg : Bool} (T : Tx K mg) : FnG P w K mg base CX0 gg 4 (He.ma K (He.ga K "Amount") "__neg__") T.fd_AmountU_negU ["self"] (sp_neg K) := by
  refine funG T.F_AmountU_negU sc_AmountU_negU (fun vs H Q E h => ?_) (fun cdv A outer s H vs Q E hr hg h => ?_)
  · obtain ⟨a, t, b, e, _⟩ := h; rw [e]; rfl
  · obtain ⟨a, t, b, rfl, ha, hz, hb, k⟩ := h
    refine ⟨_, (pss_one (ps_ret (pg_make T.k_Amount (ok_AmountU_initU T) (hr.mono (by decide)) hg (by rfl) T.g_Amount T.b_AmountU_initU .nil pass0 (pa_cons (pe_un un_neg (pe_fld (pv 0) rfl)) (pa_cons (pe_fld (pv 0) rfl) pa_nil))))), ?_⟩
    walk_at "st"
    repeat walk_at "rd"
    exact use_make rfl hb hz (fun p H2 s2 hn h => k p H2 s2 h)
theorem sc_Amount_below : FnScope ["self", "other"] ["self", "other"] (defScope s_Amount_below) := ⟨rfl, rfl, rfl, by decide +kernel, rfl, by decide +kernel, by decide +kernel⟩
theorem ok_Amount_below {gg : Bool} (T : Tx K mg) : FnG P w K mg base CX0 gg 5 (He.ma K (He.ga K "Amount") "below") T.fd_Amount_below ["self", "other"] (sp_below K) := by
  refine funG T.F_Amount_below sc_Amount_below (fun vs H Q E h => ?_) (fun cdv A outer s H vs Q E hr hg h => ?_)
  · obtain ⟨a, v, t, b, t2, b2, e, _⟩ := h; rw [e]; rfl
  · obtain ⟨a, v, t, b, t2, b2, rfl, ha, hv, ⟨z1, z2, z3, z4⟩, k⟩ := h
    refine ⟨_, (pss_cons (ps_set (i := 1) sc_Amount_below.nd rfl (by first | exact Or.inl rfl | exact Or.inr rfl) (pg_call (ok_amount_of T) (hr.mono (by decide)) hg (by rfl) T.g_amount_of T.F_amount_of.kp T.b_amount_of .nil pass0 (pa_cons (pv 1) pa_nil)))
    (pss_one (ps_ret (pe_cmpR op_lt (pe_op op_mulW (pe_fld (pv 0) rfl) (pg_prop (pv 1) T.c_Amount T.p_Amount_bottom (ok_Amount_bottom T) (hr.mono (by decide)) hg T.b_Amount_bottom .nil pass0 rfl)) (pe_op op_mulW (pg_prop (pv 1) T.c_Amount T.p_Amount_top (ok_Amount_top T) (hr.mono (by decide)) hg T.b_Amount_top .nil pass0 rfl) (pe_fld (pv 0) rfl)) (nomark _))))), ?_⟩
    walk_at "st"
    repeat walk_at "rd"
    refine use_of hv (fun c H1 s1 hc => ?_)
    have ha := ha.same s1
    repeat walk_at "rd"
    refine r_I (Sz.cm z1 z4 (by decide) (by decide) (by decide)) ?_
    repeat walk_at "rd"
    refine r_I (Sz.cm z3 z2 (by decide) (by decide) (by decide)) ?_
    repeat walk_at "rd"
    exact k H1 s1
theorem sc_AmountU_eqU : FnScope ["self", "other"] ["self", "other"] (defScope s_AmountU_eqU) := ⟨rfl, rfl, rfl, by decide +kernel, rfl, by decide +kernel, by decide +kernel⟩
theorem ok_AmountU_eqU {gg : Bool} (T : Tx K mg) : FnG P w K mg base CX0 gg 1 (He.ma K (He.ga K "Amount") "__eq__") T.fd_AmountU_eqU ["self", "other"] (sp_eq K) := by
  refine funG T.F_AmountU_eqU sc_AmountU_eqU (fun vs H Q E h => ?_) (fun cdv A outer s H vs Q E hr hg h => ?_)
  · obtain ⟨a, t, b, ⟨c, t2, b2, e, _⟩ | ⟨y, e, _⟩⟩ := h <;> (rw [e]; rfl)
  · obtain ⟨a, t, b, ⟨c, t2, b2, rfl, hc, ha, k⟩ | ⟨y, rfl, hy, ha, k⟩⟩ := h
    · refine ⟨_, (pss_one (ps_ret (pe_and (pe_callB call_isi (by rfl) T.m_isinstance (by decide +kernel) (pa_cons (pv 1) (pa_cons (pe_glob (v := .ref (He.ga K "Amount")) (by rfl) T.g_Amount rfl) pa_nil))) (pe_and (pe_cmpR op_eq (pe_fld (pv 0) rfl) (pe_fld (pv 1) rfl) (nomark _)) (pe_one (pe_cmpR op_eq (pe_fld (pv 0) rfl) (pe_fld (pv 1) rfl) (nomark _))))))), ?_⟩
      walk_at "st"
      repeat walk_at "rd"
      obtain ⟨dx, ec⟩ := id hc
      refine r_isi (b := true) (ty_own ec T.c_Amount T.i_Amount) (.own _) kit_self ?_
      repeat walk_at "rd"
      refine r_dec (fun e => ?_) (fun e => ?_)
      · repeat walk_at "rd"
        rw [show decide (b = b2) = decide (t = t2 ∧ b = b2) from decide_eq_decide.mpr ⟨fun h => ⟨e, h⟩, fun h => h.2⟩]
        exact k
      · rw [decide_eq_false (fun h => e h.1)] at k
        exact k
    · refine ⟨_, (pss_one (ps_ret (pe_and (pe_callB call_isi (by rfl) T.m_isinstance (by decide +kernel) (pa_cons (pv 1) (pa_cons (pe_glob (v := .ref (He.ga K "Amount")) (by rfl) T.g_Amount rfl) pa_nil))) (pe_and (pe_cmpR op_eq (pe_fld (pv 0) rfl) (pe_fld (pv 1) rfl) (nomark _)) (pe_one (pe_cmpR op_eq (pe_fld (pv 0) rfl) (pe_fld (pv 1) rfl) (nomark _))))))), ?_⟩
      walk_at "st"
      repeat walk_at "rd"
      have step : ∀ {Q : VK}, Q (.bl false) H → rIsi K [y, .ref (He.ga K "Amount")] H Q := fun {Q} q => by
        rcases hy with ⟨i, rfl⟩ | ⟨f, rfl, dx, fs, ef⟩
        · exact r_isi (b := false) ty_int (.own _) T.kt_int_Amount q
        · exact r_isi (b := false) (ty_own ef T.c_Form T.i_Form) (.own _) T.kt_Form_Amount q
      refine step ?_
      repeat walk_at "rd"
      exact k
theorem sc_AmountU_strU : FnScope ["self"] ["self"] (defScope s_AmountU_strU) := ⟨rfl, rfl, rfl, by decide +kernel, rfl, by decide +kernel, by decide +kernel⟩
theorem ok_AmountU_strU {gg : Bool} (T : Tx K mg) : FnG P w K mg base CX0 gg 1 (He.ma K (He.ga K "Amount") "__str__") T.fd_AmountU_strU ["self"] (sp_text K amtS) := by
  refine funG T.F_AmountU_strU sc_AmountU_strU (fun vs H Q E h => ?_) (fun cdv A outer s H vs Q E hr hg h => ?_)
  · obtain ⟨a, t, b, e, _⟩ := h; rw [e]; rfl
  · obtain ⟨a, t, b, rfl, ha, z1, z2, k⟩ := h
    refine ⟨_, (pss_cons (ps_if (pt_cmpR op_eq (pe_fld (pv 0) rfl) pe_int (nomark _)) (pss_one (ps_ret (pe_callTy call_str_int (by rfl) T.m_str (by decide +kernel) (pa_cons (pe_fld (pv 0) rfl) pa_nil)))) pss_nil)
    (pss_one (ps_ret (pe_joined (.cons (pe_fmt (pe_fld (pv 0) rfl)) (.cons pe_str (.cons (pe_fmt (pe_fld (pv 0) rfl)) .nil))))))), ?_⟩
    simp only [amtS] at k
    walk_at "st"
    repeat walk_at "rd"
    refine r_dec (fun e => ?_) (fun e => ?_)
    · rw [if_pos e] at k
      repeat walk_at "rd"
      refine ⟨z1.log (by decide) (by decide), ?_⟩
      exact k
    · rw [if_neg e] at k
      have y1 := int_text_len_1921 (z1.log (m := 1920) (by decide) (by decide))
      have y2 := int_text_len_1921 (z2.log (m := 1920) (by decide) (by decide))
      repeat walk_at "rd"
      refine .inr ⟨t, rfl, z1.log (by decide) (by decide), ⟨_, rfl, by walk_at "len", ?_⟩⟩
      repeat walk_at "rd"
      refine ⟨_, rfl, by walk_at "len", ?_⟩
      repeat walk_at "rd"
      refine .inr ⟨b, rfl, z2.log (by decide) (by decide), ⟨_, rfl, by walk_at "len", ?_⟩⟩
      repeat walk_at "rd"
      exact k
theorem sc_AmountU_reprU : FnScope ["self"] ["self"] (defScope s_AmountU_reprU) := ⟨rfl, rfl, rfl, by decide +kernel, rfl, by decide +kernel, by decide +kernel⟩
theorem ok_AmountU_reprU {gg : Bool} (T : Tx K mg) : FnG P w K mg base CX0 gg 1 (He.ma K (He.ga K "Amount") "__repr__") T.fd_AmountU_reprU ["self"] (sp_text K amtR) := by
  refine funG T.F_AmountU_reprU sc_AmountU_reprU (fun vs H Q E h => ?_) (fun cdv A outer s H vs Q E hr hg h => ?_)
  · obtain ⟨a, t, b, e, _⟩ := h; rw [e]; rfl
  · obtain ⟨a, t, b, rfl, ha, z1, z2, k⟩ := h
    refine ⟨_, (pss_one (ps_ret (pe_joined (.cons pe_str (.cons (pe_fmt (pe_fld (pv 0) rfl)) (.cons pe_str (.cons (pe_fmt (pe_fld (pv 0) rfl)) (.cons pe_str .nil)))))))), ?_⟩
    simp only [amtR] at k
    have y1 := int_text_len_1921 (z1.log (m := 1920) (by decide) (by decide))
    have y2 := int_text_len_1921 (z2.log (m := 1920) (by decide) (by decide))
    walk_at "st"
    repeat walk_at "rd"
    refine ⟨_, rfl, by walk_at "len", ?_⟩
    repeat walk_at "rd"
    refine .inr ⟨t, rfl, z1.log (by decide) (by decide), ⟨_, rfl, by walk_at "len", ?_⟩⟩
    repeat walk_at "rd"
    refine ⟨_, rfl, by walk_at "len", ?_⟩
    repeat walk_at "rd"
    refine .inr ⟨b, rfl, z2.log (by decide) (by decide), ⟨_, rfl, by walk_at "len", ?_⟩⟩
    repeat walk_at "rd"
    refine ⟨_, rfl, by walk_at "len", ?_⟩
    repeat walk_at "rd"
    exact k

end
/-! ### what the laws draw with -/
theorem q_par {v w : V} {A : V → V → Prop} (q : A v w) : ∃ v' w', [v, w] = [v', w'] ∧ A v' w' := ⟨v, w, rfl, q⟩
def KeepBut (p : Addr) (H H' : Hp) : Prop := ∀ b o, b ≠ p → H b = some o → H' b = some o
theorem KeepBut.refl {p : Addr} {H : Hp} : KeepBut p H H := fun _ _ _ e => e
theorem KeepBut.trans {p : Addr} {H H1 H2 : Hp} (a : KeepBut p H H1) (b : KeepBut p H1 H2) : KeepBut p H H2 := fun c o n e => b c o n (a c o n e)
theorem KeepBut.of {p : Addr} {H H' : Hp} (s : Same H H') : KeepBut p H H' := fun b o _ e => s b o e
def PotAt (H : Hp) (p : Addr) : Prop := ∃ c0 c1, H p = some (.lst [.int c0, .int c1]) ∧ 0 ≤ c1 ∧ c1 < 2147483648
theorem PotAt.same {H H' : Hp} {p : Addr} (h : PotAt H p) (s : Same H H') : PotAt H' p := let ⟨c0, c1, e, z⟩ := h; ⟨c0, c1, s _ _ e, z⟩
theorem KeepBut.none {p q : Addr} {H H' : Hp} (k : KeepBut p H H') (hp : PotAt H' p) (h : H' q = none) : H q = none := by
  obtain ⟨c0, c1, e, _⟩ := hp
  have hq : q ≠ p := by
    rintro rfl
    rw [e] at h
    cases h
  cases z : H q with
  | none => rfl
  | some o => rw [k q o hq z] at h; cases h
def TupAt (H : Hp) (q : Addr) (t b : Int) : Prop := H q = some (.tup [.int t, .int b])
theorem TupAt.keep {p q : Addr} {H H' : Hp} {t b : Int} (h : TupAt H q t b) (s : KeepBut p H H') (hp : PotAt H p) : TupAt H' q t b := s q _ (fun e => by
  obtain ⟨c0, c1, z, _⟩ := hp
  unfold TupAt at h
  rw [e, z] at h
  cases h) h
theorem TupAt.same {q : Addr} {H H' : Hp} {t b : Int} (h : TupAt H q t b) (s : Same H H') : TupAt H' q t b := s _ _ h
theorem cm_small {i j : Int} (h1 : -18446744073709551616 < i) (h2 : i < 18446744073709551616) (h3 : -18446744073709551616 < j) (h4 : j < 18446744073709551616) : CMulW i j :=
  Sz.cm (a := 64) (b := 64) (by unfold Sz; omega) (by unfold Sz; omega) (by decide) (by decide) (by decide)
def sp_pot (K : PySem.W.Frag) : Sp := fun vs H Q _ => ∃ a, ∃ ns : List Int, ∃ k, vs = [.ref a, .int k] ∧ SqL K H a (ns.map V.int) ∧ 0 ≤ k ∧ k < 1000 ∧ ∀ p H', H p = none → Same H H' → PotAt H' p → Q (.ref p) H'
def sp_digit : Sp := fun vs H Q _ => ∃ p m, vs = [.ref p, .int m] ∧ PotAt H p ∧ 0 < m ∧ m < 1073741824 ∧ ∀ d H', 0 ≤ d → d < m → PotAt H' p → KeepBut p H H' → Q (.int d) H'
def sp_pick : Sp := fun vs H Q _ => ∃ p l xs, vs = [.ref p, .ref l] ∧ PotAt H p ∧ H l = some (.lst xs) ∧ l ≠ p ∧ xs ≠ [] ∧ xs.length < 1000 ∧ ∀ x H', x ∈ xs → PotAt H' p → KeepBut p H H' → Q x H'
def sp_draw : Sp := fun vs H Q _ => ∃ p, vs = [.ref p] ∧ PotAt H p ∧ ∀ i H', Sz 90 i → PotAt H' p → KeepBut p H H' → Q (.int i) H'
def sp_pair : Sp := fun vs H Q _ => ∃ p, vs = [.ref p] ∧ PotAt H p ∧ ∀ q t b H', Sz 90 t → Sz 90 b → b ≠ 0 → H q = none → TupAt H' q t b → PotAt H' p → KeepBut p H H' → Q (.ref q) H'
section
variable {K : PySem.W.Frag} {H : Hp} {Q : VK} {E : XK} {p a : Addr}
theorem use_pot {ns : List Int} {k : Int} (h : SqL K H a (ns.map V.int)) (h0 : 0 ≤ k) (h1 : k < 1000) (q : ∀ p H', H p = none → Same H H' → PotAt H' p → Q (.ref p) H') : sp_pot K ([.ref a, .int k] ++ []) H Q E := ⟨a, ns, k, rfl, h, h0, h1, q⟩
theorem use_digit {m : Int} (h : PotAt H p) (h0 : 0 < m) (h1 : m < 1073741824) (q : ∀ d H', 0 ≤ d → d < m → PotAt H' p → KeepBut p H H' → Q (.int d) H') : sp_digit ([.ref p, .int m] ++ []) H Q E := ⟨p, m, rfl, h, h0, h1, q⟩
theorem use_pick {l : Addr} {xs : List V} (h : PotAt H p) (hl : H l = some (.lst xs)) (hn : l ≠ p) (h0 : xs ≠ []) (h1 : xs.length < 1000) (q : ∀ x H', x ∈ xs → PotAt H' p → KeepBut p H H' → Q x H') : sp_pick ([.ref p, .ref l] ++ []) H Q E := ⟨p, l, xs, rfl, h, hl, hn, h0, h1, q⟩
theorem use_draw (h : PotAt H p) (q : ∀ i H', Sz 90 i → PotAt H' p → KeepBut p H H' → Q (.int i) H') : sp_draw ([.ref p] ++ []) H Q E := ⟨p, rfl, h, q⟩
theorem use_pair (h : PotAt H p) (q : ∀ q t b H', Sz 90 t → Sz 90 b → b ≠ 0 → H q = none → TupAt H' q t b → PotAt H' p → KeepBut p H H' → Q (.ref q) H') : sp_pair ([.ref p] ++ []) H Q E := ⟨p, rfl, h, q⟩
theorem r_setL {l : Addr} {xs : List V} {m : Int} {j : Nat} {v : V} {QH : Hp → Prop} (h : H l = some (.lst xs)) (e : ixN xs.length m = some j) (q : ∀ H2, H2 l = some (.lst (xs.set j v)) → (∀ b, b ≠ l → H2 b = H b) → QH H2) : rSetL (.ref l) (.int m) v H QH := ⟨l, xs, m, j, rfl, rfl, h, e, q _ upd_same fun b hb => upd_ne hb⟩
end
theorem r_bm {K : PySem.W.Frag} {T : String} {r : V → List V → Hp → VK → Prop} {to : TE} {t : TA} {σ : L2.St} {H : Hp} {Q : VK} (q : to σ H fun x H1 => tyV K T x H1 ∧ t σ H1 fun xs H2 => r x xs H2 Q) : tBM K T r to t σ H Q := q
theorem q_list {K : PySem.W.Frag} {p : Addr} {xs : List V} {H : Hp} {A : Prop} (h : H p = some (.lst xs)) (q : A) : tyV K "list" (.ref p) H ∧ A := ⟨.inl ⟨rfl, _, .inl (.inl h)⟩, q⟩
theorem q_itl {K : PySem.W.Frag} {a : Addr} {xs : List V} {H : Hp} {A : Addr → Prop} (h : H a = some (.lst xs)) (q : A a) : ∃ a', V.ref a = .ref a' ∧ (∃ xs, SqL K H a' xs) ∧ A a' := ⟨a, rfl, ⟨xs, .inl (.inl h)⟩, q⟩

/-! ### forms -/
def onlyB (x y : Str) : Bool := (Txt.stripChars x y).length == 0
def sp_isAmt (K : PySem.W.Frag) : Sp := fun vs H Q _ => ∃ v t b, vs = [v] ∧ AmtV K H v t b ∧ Q (.bl true) H
def sp_only : Sp := fun vs H Q _ => ∃ x y : Str, vs = [.str x, .str y] ∧ x.length ≤ sizeLine ∧ Q (.bl (onlyB x y)) H
def alpha : Str := "abcdefghijklmnopqrstuvwxyz" ++ "0123456789" ++ "."
def symB (z : Str) : Bool := decide (1 ≤ z.length ∧ z.length ≤ 24) && (onlyB z alpha && !onlyB z "0123456789")
def sp_sym : Sp := fun vs H Q _ => ∃ z : Str, vs = [.str z] ∧ z.length ≤ sizeLine ∧ Q (.bl (symB z)) H
theorem ty_str {K : PySem.W.Frag} {H : Hp} {z : Str} : TyX K H (.str z) (.type "str") := .base (.str z)
theorem r_notT {K : PySem.W.Frag} {ta : TE} {σ : L2.St} {H : Hp} {Q : VK} (q : ta σ H fun x H1 => ∃ k, TruV K x H1 k ∧ Q (.bl (!k)) H1) : tNotT K ta σ H Q := q
theorem q_strip {x y : Str} {A : Str → Str → Prop} (h : x.length ≤ sizeLine) (q : A x y) : ∃ a b, V.str x = .str a ∧ [V.str y] = [.str b] ∧ a.length ≤ sizeLine ∧ A a b := ⟨x, y, rfl, rfl, h, q⟩
theorem q_lenS {z : Str} {A : Str → Prop} (h : z.length ≤ sizeLine) (q : A z) : ∃ y, [V.str z] = [.str y] ∧ y.length ≤ sizeLine ∧ A y := ⟨z, rfl, h, q⟩
theorem r_chain {r r' : R2} {ta tb tc : TE} {σ : L2.St} {H : Hp} {Q : VK} (q : ta σ H fun x H1 => tb σ H1 fun y H2 => r x y H2 fun z H3 => ∃ k, z = .bl k ∧ (if k = true then tc σ H3 fun w' H4 => r' y w' H4 Q else Q (.bl false) H3)) : tChain r r' ta tb tc σ H Q := q
theorem use_only {x y : Str} {H : Hp} {Q : VK} {E : XK} (h : x.length ≤ sizeLine) (q : Q (.bl (onlyB x y)) H) : sp_only ([.str x, .str y] ++ []) H Q E := ⟨x, y, rfl, h, q⟩
theorem q_fld {K : PySem.W.Frag} {H : Hp} {A : V → Prop} {a C dx : Addr} {fs : List (Str × V)} {f : Str} {v : V} (h : H a = some (.ins C dx fs)) (c : Cls K C) (na : NoAttr K C f) (e : fs.lookup f = some v) (q : A v) :
    ∃ a' C dx fs v, V.ref a = .ref a' ∧ H a' = some (.ins C dx fs) ∧ Cls K C ∧ NoAttr K C f ∧ fs.lookup f = some v ∧ A v := ⟨a, C, dx, fs, v, rfl, h, c, na, e, q⟩
/-! a Form as it is stored: its constant, its weights by ascending symbols -/
def frmF (ca d : Addr) : List (Str × V) := putF "_weights" (.ref d) (putF "_constant" (.ref ca) [])
theorem frmF_c (ca d : Addr) : (frmF ca d).lookup ("_constant" : Str) = some (.ref ca) := by
  unfold frmF
  rw [lookup_putF, if_neg (by decide +kernel), lookup_putF, if_pos rfl]
theorem frmF_w (ca d : Addr) : (frmF ca d).lookup ("_weights" : Str) = some (.ref d) := by
  unfold frmF
  rw [lookup_putF, if_pos rfl]
abbrev Ws := List (Str × Int × Int)
/-- the items of the dict are the weights, in their order -/
inductive WsAt (K : PySem.W.Frag) (H : Hp) : List (Key × V) → Ws → Prop where
  | nil : WsAt K H [] []
  | cons {z : Str} {a : Addr} {t b : Int} {kvs : List (Key × V)} {ws : Ws} (h : AmtAt K H a t b) (r : WsAt K H kvs ws) : WsAt K H ((.inr z, .ref a) :: kvs) ((z, t, b) :: ws)
theorem WsAt.length {K : PySem.W.Frag} {H : Hp} {kvs : List (Key × V)} {ws : Ws} (h : WsAt K H kvs ws) : kvs.length = ws.length := by
  induction h with
  | nil => rfl
  | cons _ _ ih => rw [List.length_cons, List.length_cons, ih]
theorem WsAt.keys {K : PySem.W.Frag} {H : Hp} {kvs : List (Key × V)} {ws : Ws} (h : WsAt K H kvs ws) : kvs.map (fun kv => kV kv.1) = ws.map fun w => V.str w.1 := by
  induction h with
  | nil => rfl
  | cons _ _ ih => rw [List.map_cons, List.map_cons, ih]; rfl
theorem WsAt.same {K : PySem.W.Frag} {H H' : Hp} {kvs : List (Key × V)} {ws : Ws} (h : WsAt K H kvs ws) (s : Same H H') : WsAt K H' kvs ws := by
  induction h with
  | nil => exact .nil
  | cons a _ ih => exact .cons (a.same s) ih
def FrmAt (K : PySem.W.Frag) (H : Hp) (a : Addr) (c : Int × Int) (ws : Ws) : Prop := ∃ dx ca d kvs, H a = some (.ins (He.ga K "Form") dx (frmF ca d)) ∧ AmtAt K H ca c.1 c.2 ∧ H d = some (.dK kvs) ∧ WsAt K H kvs ws
theorem FrmAt.same {K : PySem.W.Frag} {H H' : Hp} {a : Addr} {c : Int × Int} {ws : Ws} (h : FrmAt K H a c ws) (s : Same H H') : FrmAt K H' a c ws :=
  let ⟨dx, ca, d, kvs, e, hc, hd, hw⟩ := h
  ⟨dx, ca, d, kvs, s _ _ e, hc.same s, s _ _ hd, hw.same s⟩
def sp_formC (K : PySem.W.Frag) : Sp := fun vs H Q _ => ∃ a c ws, vs = [.ref a] ∧ FrmAt K H a c ws ∧ ∀ ca, AmtAt K H ca c.1 c.2 → Q (.ref ca) H
def sp_formK (K : PySem.W.Frag) : Sp := fun vs H Q _ => ∃ a c ws, vs = [.ref a] ∧ FrmAt K H a c ws ∧ Q (.bl (decide ((ws.length : Int) = 0))) H
def sp_formS (K : PySem.W.Frag) : Sp := fun vs H Q _ => ∃ a c ws, vs = [.ref a] ∧ FrmAt K H a c ws ∧ ∀ l H', H l = none → Same H H' → H' l = some (.lst (ws.map fun w => .str w.1)) → Q (.ref l) H'
/-! a dict that is passed for the weights: symbols to amounts or integers -/
inductive WsV (K : PySem.W.Frag) (H : Hp) : List (Key × V) → Ws → Prop where
  | nil : WsV K H [] []
  | cons {z : Str} {v : V} {t b : Int} {kvs : List (Key × V)} {ws : Ws} (h : AmtV K H v t b) (r : WsV K H kvs ws) : WsV K H ((.inr z, v) :: kvs) ((z, t, b) :: ws)
theorem WsV.same {K : PySem.W.Frag} {H H' : Hp} {kvs : List (Key × V)} {ws : Ws} (h : WsV K H kvs ws) (s : Same H H') : WsV K H' kvs ws := by
  induction h with
  | nil => exact .nil
  | cons a _ ih => exact .cons (a.same s) ih
theorem WsV.get {K : PySem.W.Frag} {H : Hp} {kvs : List (Key × V)} {ws : Ws} (h : WsV K H kvs ws) : ∀ (i : Nat) (k : Key) (v : V), kvs[i]? = some (k, v) → ∃ w, ws[i]? = some w ∧ k = .inr w.1 ∧ AmtV K H v w.2.1 w.2.2 := by
  induction h with
  | nil => intro i k v e; cases e
  | cons a _ ih =>
    intro i k v e
    cases i with
    | zero =>
      cases e
      exact ⟨_, rfl, rfl, a⟩
    | succ i => exact ih i k v e
theorem valV_at : ∀ {kvs : List (Key × V)} {i : Nat} {k : Key} {v : V}, (kvs.map (·.1)).Nodup → kvs[i]? = some (k, v) → valV kvs k = some v
  | [], _, _, _, _, e => by cases e
  | (k0, v0) :: r, 0, k, v, _, e => by
    cases e
    unfold valV
    rw [List.find?_cons, decide_eq_true rfl]
    rfl
  | (k0, v0) :: r, i + 1, k, v, nd, e => by
    rw [List.map_cons, List.nodup_cons] at nd
    have e : r[i]? = some (k, v) := e
    have ne : ¬ k0 = k := fun h => nd.1 (List.mem_map.mpr ⟨(k, v), List.mem_of_getElem? e, h.symm⟩)
    have ih := valV_at nd.2 e
    unfold valV at ih ⊢
    rw [List.find?_cons, decide_eq_false ne]
    exact ih
theorem r_lockE {t : TE} {σ : L2.St} {H : Hp} {Q : VK} {d : Addr} {u : HO} (h : H d = some u) (m : Mut (some u)) (q : ∀ od H1, H1 d = some (.frz od u) → (∀ b, b ≠ d → H1 b = H b) → t σ H1 fun v H' => H' d = some (.frz od u) ∧ Q v (upd H' d u)) : tLockE t σ H Q := ⟨d, u, h, m, fun od => q od _ upd_same fun b hb => upd_ne hb⟩
theorem r_keys {td : TE} {σ : L2.St} {H : Hp} {R : It → Hp → Prop} (q : td σ H fun x H1 => ∃ d o, x = .ref d ∧ ((∃ kvs, H1 d = some (.frz o (.dK kvs)) ∧ R (Itk d o kvs) H1) ∨ ∃ kvs, H1 d = some (.frz o (.dT kvs)) ∧ R (Itkt d o kvs) H1)) : iKeys td σ H R := q
theorem u_lcK {g : TG} {te : TE} {is : List Nat} {σ : L2.St} {Q : VK} {d : Addr} {o : Obj} {kvs : List (Key × V)} {H1 : Hp} (q : ∀ D H0, H1 D = none → Same H1 H0 → H0 D = some (.lst []) → (∀ b, b ≠ D → H0 b = H1 b) → ∃ Pv : Nat → Hp → Prop, Pv 0 H0 ∧ (∀ i H, i ≤ kvs.length → Pv i H → H d = some (.frz o (.dK kvs))) ∧
    (∀ i k v H, kvs[i]? = some (k, v) → Pv i H → g (kV k) (wipe σ is) H fun σ2 H2 => wipe σ2 is = wipe σ is ∧ te σ2 H2 (Grow D (Pv (i + 1)))) ∧ ∀ H, Pv kvs.length H → Q (.ref D) H) : LcK g tYes te is σ Q (Itk d o kvs) H1 := by
  intro D hD
  obtain ⟨Pv, h0, hl, hs, hd⟩ := q D _ hD (fun b o e => by rw [upd_ne (ne_of_none e hD)]; exact e) upd_same fun b hb => upd_ne hb
  refine ⟨fun i m H => m = kvs.length - i ∧ i ≤ kvs.length ∧ Pv i H, ⟨kvs.length, by simp, Nat.zero_le _, h0⟩, ?_⟩
  rintro i m H ⟨rfl, hi, p⟩
  have st := hl i H hi p
  by_cases hlt : i < kvs.length
  · refine .inr ⟨⟨st, hlt⟩, Pv (i + 1), fun H' p' => ⟨kvs.length - (i + 1), by omega, rfl, hlt, p'⟩, fun v H' y => ?_⟩
    obtain ⟨rfl, k, w, e, rfl⟩ := y
    exact hs i k w _ e p
  · have e : i = kvs.length := by omega
    subst e
    exact .inl ⟨⟨st, Nat.le_refl _⟩, hd H p⟩
def sp_maps (K : PySem.W.Frag) : Sp := fun vs H Q _ => ∃ d kvs ws, vs = [.ref d] ∧ H d = some (.dK kvs) ∧ WsV K H kvs ws ∧ (∀ w ∈ ws, symB w.1 = true ∧ w.1.length ≤ sizeLine) ∧ (kvs.map (·.1)).Nodup ∧ kvs.length < 1000 ∧ ∀ H', Same H H' → Q (.bl true) H'
theorem AmtV.off {K : PySem.W.Frag} {H H' : Hp} {v : V} {t b : Int} {d : Addr} (h : AmtV K H v t b) (hd : ∀ a dx fs, H a = some (.ins (He.ga K "Amount") dx fs) → a ≠ d) (ne : ∀ b, b ≠ d → H' b = H b) : AmtV K H' v t b := by
  rcases h with ⟨a, e, dx, h⟩ | h
  · exact .inl ⟨a, e, dx, by rw [ne a (hd a dx _ h)]; exact h⟩
  · exact .inr h
theorem r_dget {td ty : TE} {σ : L2.St} {H : Hp} {Q : VK} (q : td σ H fun x H1 => ty σ H1 fun y H2 => ∃ a v, x = .ref a ∧ DGet H2 a y (some v) ∧ Q v H2) : tDGet td ty σ H Q := q
theorem g_grow {D : Addr} {acc : List V} {y : V} {Nx : Hp → Prop} {H : Hp} (h : H D = some (.lst acc)) (hz : acc.length < 100000) (q : ∀ H2, H2 D = some (.lst (acc ++ [y])) → (∀ b, b ≠ D → H2 b = H b) → Nx H2) : Grow D Nx y H := ⟨acc, h, Nat.lt_of_lt_of_le hz (by decide), q _ upd_same fun b hb => upd_ne hb⟩
theorem use_sym {z : Str} {H : Hp} {Q : VK} {E : XK} (h : z.length ≤ sizeLine) (e : symB z = true) (q : Q (.bl true) H) : sp_sym ([.str z] ++ []) H Q E := ⟨z, rfl, h, by rw [e]; exact q⟩
/-- the weight of a symbol, 0 without a term -/
def wsGet (ws : Ws) (z : Str) : Int × Int := ((ws.find? fun w => decide (w.1 = z)).map (·.2)).getD (0, 1)
theorem WsAt.get {K : PySem.W.Frag} {H : Hp} {kvs : List (Key × V)} {ws : Ws} {z : Str} (h : WsAt K H kvs ws) : (valV kvs (.inr z) = none ∧ wsGet ws z = (0, 1)) ∨ ∃ a, valV kvs (.inr z) = some (.ref a) ∧ AmtAt K H a (wsGet ws z).1 (wsGet ws z).2 := by
  induction h with
  | nil => exact .inl ⟨rfl, rfl⟩
  | @cons y a t b kvs ws ha _ ih =>
    by_cases e : y = z
    · subst e
      refine .inr ⟨a, ?_, ?_⟩
      · unfold valV
        rw [List.find?_cons, decide_eq_true rfl]; rfl
      · unfold wsGet
        rw [List.find?_cons, decide_eq_true rfl]; exact ha
    · have e2 : ¬ (Sum.inr y : Key) = .inr z := fun q => e (Sum.inr.inj q)
      unfold valV wsGet at ih ⊢
      rw [List.find?_cons, decide_eq_false e2, List.find?_cons, decide_eq_false e]
      exact ih
def sp_wt (K : PySem.W.Frag) : Sp := fun vs H Q _ => ∃ a c ws z, vs = [.ref a, .str z] ∧ FrmAt K H a c ws ∧ symB z = true ∧ z.length ≤ sizeLine ∧ ∀ p H', Same H H' → AmtAt K H' p (wsGet ws z).1 (wsGet ws z).2 → Q (.ref p) H'
def clean (ws : Ws) : Ws := ws.filter fun w => decide (w.2.1 ≠ 0)
/-- what may be passed for the weights of a Form -/
def WIn (K : PySem.W.Frag) (H : Hp) (wv : V) (ws : Ws) : Prop := (wv = .non ∧ ws = []) ∨ ∃ d kvs, wv = .ref d ∧ H d = some (.dK kvs) ∧ WsV K H kvs ws ∧ (∀ w ∈ ws, symB w.1 = true ∧ w.1.length ≤ sizeLine) ∧ (kvs.map (·.1)).Nodup ∧ kvs.length < 64
def sp_frm (K : PySem.W.Frag) : Sp := fun vs H Q _ => ∃ p dx cv, ∃ c : Int × Int, ∃ wv ws, vs = [.ref p, cv, wv] ∧ H p = some (.ins (He.ga K "Form") dx []) ∧ AmtV K H cv c.1 c.2 ∧ WIn K H wv ws ∧
  ∀ H' ws2 ca d kvs, ws2.Perm ws → sortedS (ws2.map fun w => w.1) = true → (∀ b o, b ≠ p → H b = some o → H' b = some o) → H' p = some (.ins (He.ga K "Form") dx (frmF ca d)) → AmtAt K H' ca c.1 c.2 → H' d = some (.dK kvs) → WsAt K H' kvs (clean ws2) → H d = none → Q .non H'
theorem AmtV.mono {K : PySem.W.Frag} {H H' : Hp} {v : V} {t b : Int} (h : AmtV K H v t b) (f : ∀ a t b, AmtAt K H a t b → AmtAt K H' a t b) : AmtV K H' v t b := by
  rcases h with ⟨a, e, h⟩ | h
  · exact .inl ⟨a, e, f _ _ _ h⟩
  · exact .inr h
theorem WsV.mono {K : PySem.W.Frag} {H H' : Hp} {kvs : List (Key × V)} {ws : Ws} (h : WsV K H kvs ws) (f : ∀ a t b, AmtAt K H a t b → AmtAt K H' a t b) : WsV K H' kvs ws := by
  induction h with
  | nil => exact .nil
  | cons a _ ih => exact .cons (a.mono f) ih
theorem WsAt.mono {K : PySem.W.Frag} {H H' : Hp} {kvs : List (Key × V)} {ws : Ws} (h : WsAt K H kvs ws) (f : ∀ a t b, AmtAt K H a t b → AmtAt K H' a t b) : WsAt K H' kvs ws := by
  induction h with
  | nil => exact .nil
  | cons a _ ih => exact .cons (f _ _ _ a) ih
theorem WsV.keys {K : PySem.W.Frag} {H : Hp} {kvs : List (Key × V)} {ws : Ws} (h : WsV K H kvs ws) : kvs.map (fun x => x.1) = (ws.map fun w => w.1).map Sum.inr := by
  induction h with
  | nil => rfl
  | cons _ _ ih => rw [List.map_cons, List.map_cons, List.map_cons, ih]
theorem WsAt.keysI {K : PySem.W.Frag} {H : Hp} {kvs : List (Key × V)} {ws : Ws} (h : WsAt K H kvs ws) : kvs.map (fun x => x.1) = (ws.map fun w => w.1).map Sum.inr := by
  induction h with
  | nil => rfl
  | cons _ _ ih => rw [List.map_cons, List.map_cons, List.map_cons, ih]
theorem WsAt.snoc {K : PySem.W.Frag} {H : Hp} {kvs : List (Key × V)} {ws : Ws} {z : Str} {a : Addr} {t b : Int} (h : WsAt K H kvs ws) (ha : AmtAt K H a t b) : WsAt K H (kvs ++ [(.inr z, .ref a)]) (ws ++ [(z, t, b)]) := by
  induction h with
  | nil => exact .cons ha .nil
  | cons x _ ih => exact .cons x ih
theorem WsV.val {K : PySem.W.Frag} {H : Hp} {kvs : List (Key × V)} {ws : Ws} (h : WsV K H kvs ws) (nd : (kvs.map (·.1)).Nodup) : ∀ w ∈ ws, ∃ v, valV kvs (.inr w.1) = some v ∧ AmtV K H v w.2.1 w.2.2 := by
  intro w hw
  induction h with
  | nil => cases hw
  | @cons z v t b kvs ws ha r ih =>
    rw [List.map_cons, List.nodup_cons] at nd
    rcases List.mem_cons.mp hw with rfl | hw
    · refine ⟨v, ?_, ha⟩
      unfold valV
      rw [List.find?_cons, decide_eq_true rfl]; rfl
    · obtain ⟨u, e, hu⟩ := ih nd.2 hw
      refine ⟨u, ?_, hu⟩
      have ne : ¬ (Sum.inr z : Key) = .inr w.1 := fun q => nd.1 (by
        rw [r.keys, q]
        exact List.mem_map.mpr ⟨w.1, List.mem_map.mpr ⟨w, hw, rfl⟩, rfl⟩)
      unfold valV at e ⊢
      rw [List.find?_cons, decide_eq_false ne]
      exact e
theorem WsAt.get2 {K : PySem.W.Frag} {H : Hp} {kvs : List (Key × V)} {ws : Ws} (h : WsAt K H kvs ws) : ∀ (i : Nat) (k : Key) (v : V), kvs[i]? = some (k, v) → ∃ w a, ws[i]? = some w ∧ k = .inr w.1 ∧ v = .ref a ∧ AmtAt K H a w.2.1 w.2.2 := by
  induction h with
  | nil => intro i k v e; cases e
  | cons a _ ih =>
    intro i k v e
    cases i with
    | zero =>
      cases e
      exact ⟨_, _, rfl, rfl, rfl, a⟩
    | succ i => exact ih i k v e
/-- an amount does not stand where an object without fields stands -/
theorem AmtAt.not_new {K : PySem.W.Frag} {H : Hp} {a p C dx : Addr} {t b : Int} (h : AmtAt K H a t b) (hp : H p = some (.ins C dx [])) : a ≠ p := by
  rintro rfl
  obtain ⟨dy, e⟩ := h
  rw [hp] at e
  have e2 := amtF_top t b
  cases e
theorem AmtAt.not_c {K : PySem.W.Frag} {H : Hp} {a p C dx ca : Addr} {t b : Int} (h : AmtAt K H a t b) (hp : H p = some (.ins C dx (putF "_constant" (.ref ca) []))) : a ≠ p := by
  rintro rfl
  obtain ⟨dy, e⟩ := h
  rw [hp] at e
  have e2 := amtF_top t b
  injection e with e
  injection e with _ _ e
  rw [← e] at e2
  have e3 : (putF "_constant" (.ref ca) []).lookup ("_top" : Str) = none := by
    rw [lookup_putF, if_neg (by decide +kernel)]; rfl
  rw [e3] at e2
  cases e2

local macro_rules
  | `(tactic| walk_at "sd") => `(tactic| first
    | exact cm_small (by omega) (by omega) (by omega) (by omega)
    | (show (0 : Int) ≤ _ ∧ _; decide +kernel))
local macro_rules
  | `(tactic| walk_at "rd") => `(tactic| first
    | with_reducible refine r_bm ?_
    | refine q_list (by assumption) ?_
    | refine q_itl (by assumption) ?_
    | ((with_reducible refine q_par ?_); dsimp only [List.set])
    | with_reducible refine q_par ?_
    | refine r_ixL (.inl (.inl (by assumption))) (by rfl) ?_
    | refine r_ixT (.inl (.inl (by assumption))) (by rfl) ?_)

local macro_rules
  | `(tactic| walk_at "rd") => `(tactic| first
    | with_reducible refine r_notT ?_
    | with_reducible refine r_keys ?_
    | with_reducible refine r_dc ?_
    | with_reducible refine r_truK ?_
    | with_reducible refine r_dget ?_
    | with_reducible refine r_chain ?_
    | refine q_strip (by assumption) ?_
    | refine q_lenS (by assumption) ?_)

section
variable {P : Program} {w : World} {K : PySem.W.Frag} {mg : Str → Option Value} {base : Heap}
theorem sc_is_amount : FnScope ["value"] ["value"] (defScope s_is_amount) := ⟨rfl, rfl, rfl, by decide +kernel, rfl, by decide +kernel, by decide +kernel⟩
theorem ok_is_amount (T : Tx K mg) : FnG P w K mg base CX0 true 2 (He.ga K "is_amount") T.fd_is_amount ["value"] (sp_isAmt K) := by
  refine funG T.F_is_amount sc_is_amount (fun vs H Q E h => ?_) (fun cdv A outer s H vs Q E hr hg h => ?_)
  · obtain ⟨v, t, b, e, _⟩ := h; rw [e]; rfl
  · obtain ⟨v, t, b, rfl, hv, k⟩ := h
    refine ⟨_, (pss_one (ps_ret (pe_or (pe_callB call_isi (by rfl) T.m_isinstance (by decide +kernel) (pa_cons (pv 0) (pa_cons (pe_glob (v := .ref (He.ga K "Amount")) (by rfl) T.g_Amount rfl) pa_nil))) (pe_one (pg_call (ok_is_whole T) (hr.mono (by decide)) hg (by rfl) T.g_is_whole T.F_is_whole.kp T.b_is_whole .nil pass0 (pa_cons (pv 0) pa_nil)))))), ?_⟩
    walk_at "st"
    repeat walk_at "rd"
    rcases hv with ⟨a, rfl, ha⟩ | ⟨rfl, rfl⟩
    · obtain ⟨dx, ea⟩ := id ha
      refine r_isi (b := true) (ty_own ea T.c_Amount T.i_Amount) (.own _) kit_self ?_
      repeat walk_at "rd"
      exact k
    · refine r_isi (b := false) ty_int (.own _) T.kt_int_Amount ?_
      repeat walk_at "rd"
      exact k
theorem sc_has_only : FnScope ["text", "characters"] ["text", "characters"] (defScope s_has_only) := ⟨rfl, rfl, rfl, by decide +kernel, rfl, by decide +kernel, by decide +kernel⟩
theorem ok_has_only (T : Tx K mg) : FnG P w K mg base CX0 true 1 (He.ga K "has_only") T.fd_has_only ["text", "characters"] (sp_only) := by
  refine funG T.F_has_only sc_has_only (fun vs H Q E h => ?_) (fun cdv A outer s H vs Q E hr hg h => ?_)
  · obtain ⟨x, y, e, _⟩ := h; rw [e]; rfl
  · obtain ⟨x, y, rfl, hx, k⟩ := h
    refine ⟨_, (pss_one (ps_ret (pe_notT (pe_bm PySem.F.plainAttrs_str PySem.F.slot_str_strip PySem.F.type_str_strip mt_stripChars (pv 0) (pa_cons (pv 1) pa_nil))))), ?_⟩
    walk_at "st"
    repeat walk_at "rd"
    refine ⟨rfl, ?_⟩
    repeat walk_at "rd"
    refine ⟨_, ⟨Nat.le_trans (len_stripChars x y) hx, rfl⟩, ?_⟩
    have e : (!((Txt.stripChars x y).length : Int) != 0) = onlyB x y := by
      unfold onlyB
      cases h0 : (Txt.stripChars x y).length with
      | zero => rfl
      | succ n => rfl
    rw [e]
    exact k
theorem sc_is_symbol : FnScope ["value"] ["value"] (defScope s_is_symbol) := ⟨rfl, rfl, rfl, by decide +kernel, rfl, by decide +kernel, by decide +kernel⟩
theorem ok_is_symbol (T : Tx K mg) : FnG P w K mg base CX0 true 2 (He.ga K "is_symbol") T.fd_is_symbol ["value"] (sp_sym) := by
  refine funG T.F_is_symbol sc_is_symbol (fun vs H Q E h => ?_) (fun cdv A outer s H vs Q E hr hg h => ?_)
  · obtain ⟨z, e, _⟩ := h; rw [e]; rfl
  · obtain ⟨z, rfl, hz, k⟩ := h
    refine ⟨_, (pss_cons (ps_if (PW.pt (pw_or (pt_not (pt_val (pe_callB call_isi (by rfl) T.m_isinstance (by decide +kernel) (pa_cons (pv 0) (pa_cons (pe_bltn (v := .ty "str") (u := .type "str") (by rfl) T.m_str (by decide +kernel) rfl) pa_nil))))) (pw_or1 (pt_not (pt_chain op_le op_le pe_int (pe_callB call_len_str (by rfl) T.m_len (by decide +kernel) (pa_cons (pv 0) pa_nil)) (pe_glob (v := .int 24) (by rfl) T.g_LONGEST_SYMBOL.choose_spec ⟨_, rfl⟩)))))) (pss_one (ps_ret pe_bl)) pss_nil)
    (pss_one (ps_ret (pe_and (pg_call (ok_has_only T) (hr.mono (by decide)) hg (by rfl) T.g_has_only T.F_has_only.kp T.b_has_only .nil pass0 (pa_cons (pv 0) (pa_cons (pe_op op_add_str (pe_op op_add_str (pe_glob (v := .str "abcdefghijklmnopqrstuvwxyz") (by rfl) T.g_LETTERS.choose_spec ⟨_, rfl⟩) (pe_glob (v := .str "0123456789") (by rfl) T.g_DIGITS.choose_spec ⟨_, rfl⟩)) pe_str) pa_nil))) (pe_one (pe_not (pg_call (ok_has_only T) (hr.mono (by decide)) hg (by rfl) T.g_has_only T.F_has_only.kp T.b_has_only .nil pass0 (pa_cons (pv 0) (pa_cons (pe_glob (v := .str "0123456789") (by rfl) T.g_DIGITS.choose_spec ⟨_, rfl⟩) pa_nil))))))))), ?_⟩
    unfold symB at k
    walk_at "st"
    repeat walk_at "rd"
    refine r_isi (b := true) ty_str (.ty _) (kit_ty (by decide +kernel)) ?_
    repeat walk_at "rd"
    refine r_dec (fun e1 => ?_) (fun e1 => ?_)
    · repeat walk_at "rd"
      refine r_ndec (fun e2 => ?_) (fun e2 => ?_)
      · rw [decide_eq_false (by omega), Bool.false_and] at k
        repeat walk_at "rd"
        exact k
      · rw [decide_eq_true (by omega), Bool.true_and] at k
        repeat walk_at "rd"
        refine q_addS (by decide +kernel) ?_
        repeat walk_at "rd"
        refine q_addS (by decide +kernel) ?_
        repeat walk_at "rd"
        refine use_only hz ?_
        repeat walk_at "rd"
        rw [show Str.ofString "abcdefghijklmnopqrstuvwxyz" ++ Str.ofString "0123456789" ++ Str.ofString "." = alpha from rfl]
        cases h1 : onlyB z alpha with
        | false =>
          rw [h1, Bool.false_and] at k
          repeat walk_at "rd"
          exact k
        | true =>
          rw [h1, Bool.true_and] at k
          repeat walk_at "rd"
          refine use_only hz ?_
          repeat walk_at "rd"
          exact k
    · rw [decide_eq_false (by omega), Bool.false_and] at k
      repeat walk_at "rd"
      exact k
theorem sc_Form_constant_part : FnScope ["self"] ["self"] (defScope s_Form_constant_part) := ⟨rfl, rfl, rfl, by decide +kernel, rfl, by decide +kernel, by decide +kernel⟩
theorem ok_Form_constant_part (T : Tx K mg) : FnG P w K mg base CX0 true 1 (pget K "Form" "constant_part") T.fd_Form_constant_part ["self"] (sp_formC K) := by
  refine funG T.F_Form_constant_part sc_Form_constant_part (fun vs H Q E h => ?_) (fun cdv A outer s H vs Q E hr hg h => ?_)
  · obtain ⟨a, c, ws, e, _⟩ := h; rw [e]; rfl
  · obtain ⟨a, c, ws, rfl, ha, k⟩ := h
    refine ⟨_, (pss_one (ps_ret (pe_fld (pv 0) rfl))), ?_⟩
    obtain ⟨dx, ca, d, kvs, ea, hc, hd, hw⟩ := id ha
    walk_at "st"
    repeat walk_at "rd"
    refine q_fld ea T.c_Form T.n_Form_constant (frmF_c ca d) ?_
    exact k ca hc
theorem sc_Form_is_constant : FnScope ["self"] ["self"] (defScope s_Form_is_constant) := ⟨rfl, rfl, rfl, by decide +kernel, rfl, by decide +kernel, by decide +kernel⟩
theorem ok_Form_is_constant (T : Tx K mg) : FnG P w K mg base CX0 true 1 (pget K "Form" "is_constant") T.fd_Form_is_constant ["self"] (sp_formK K) := by
  refine funG T.F_Form_is_constant sc_Form_is_constant (fun vs H Q E h => ?_) (fun cdv A outer s H vs Q E hr hg h => ?_)
  · obtain ⟨a, c, ws, e, _⟩ := h; rw [e]; rfl
  · obtain ⟨a, c, ws, rfl, ha, k⟩ := h
    refine ⟨_, (pss_one (ps_ret (pe_cmpR op_eq (pe_callB call_lenD (by rfl) T.m_len (by decide +kernel) (pa_cons (pe_fld (pv 0) rfl) pa_nil)) pe_int (nomark _)))), ?_⟩
    obtain ⟨dx, ca, d, kvs, ea, hc, hd, hw⟩ := id ha
    walk_at "st"
    repeat walk_at "rd"
    refine q_fld ea T.c_Form T.n_Form_weights (frmF_w ca d) ?_
    repeat walk_at "rd"
    refine ⟨d, kvs, rfl, hd, ?_⟩
    repeat walk_at "rd"
    rw [hw.length] 
    exact k
theorem sc_Form_symbols : FnScope ["self"] ["self"] (defScope s_Form_symbols) := ⟨rfl, rfl, rfl, by decide +kernel, rfl, by decide +kernel, by decide +kernel⟩
theorem ok_Form_symbols (T : Tx K mg) : FnG P w K mg base CX0 true 1 (He.ma K (He.ga K "Form") "symbols") T.fd_Form_symbols ["self"] (sp_formS K) := by
  refine funG T.F_Form_symbols sc_Form_symbols (fun vs H Q E h => ?_) (fun cdv A outer s H vs Q E hr hg h => ?_)
  · obtain ⟨a, c, ws, e, _⟩ := h; rw [e]; rfl
  · obtain ⟨a, c, ws, rfl, ha, k⟩ := h
    refine ⟨_, (pss_one (ps_ret (pe_callTy (call_listD rfl) (by rfl) T.m_list (by decide +kernel) (pa_cons (pe_fld (pv 0) rfl) pa_nil)))), ?_⟩
    obtain ⟨dx, ca, d, kvs, ea, hc, hd, hw⟩ := id ha
    walk_at "st"
    repeat walk_at "rd"
    refine q_fld ea T.c_Form T.n_Form_weights (frmF_w ca d) ?_
    repeat walk_at "rd"
    exact ⟨d, kvs, rfl, .inl hd, fun p hp => k p _ hp (fun b o e => by rw [upd_ne (ne_of_none e hp)]; exact e) (by rw [upd_same, hw.keys])⟩
theorem sc_maps_symbols_to_amounts : FnScope ["value", "key"] ["value"] (defScope s_maps_symbols_to_amounts) := ⟨rfl, rfl, rfl, by decide +kernel, rfl, by decide +kernel, by decide +kernel⟩
theorem ok_maps_symbols_to_amounts (T : Tx K mg) : FnG P w K mg base CX0 true 3 (He.ga K "maps_symbols_to_amounts") T.fd_maps_symbols_to_amounts ["value"] (sp_maps K) := by
  refine funG T.F_maps_symbols_to_amounts sc_maps_symbols_to_amounts (fun vs H Q E h => ?_) (fun cdv A outer s H vs Q E hr hg h => ?_)
  · obtain ⟨d, kvs, ws, e, _⟩ := h; rw [e]; rfl
  · obtain ⟨d, kvs, ws, rfl, hd, hw, hs, nd, hl, k⟩ := h
    refine ⟨_, (pss_cons (ps_if (pt_not (pt_val (pe_callB call_isi (by rfl) T.m_isinstance (by decide +kernel) (pa_cons (pv 0) (pa_cons (pe_bltn (v := .ty "dict") (u := .type "dict") (by rfl) T.m_dict (by decide +kernel) rfl) pa_nil))))) (pss_one (ps_ret pe_bl)) pss_nil)
    (pss_one (ps_ret (pe_callB (cr_all rfl) (by rfl) T.m_all (by decide +kernel) (pa_cons (pe_lock (pe_lc (own := [("key", 1)]) (by rfl) sc_maps_symbols_to_amounts.nd (pi_keys (pv 0)) (blkOk_by (own := [("key", 1)]) (N := ["value", "key"]) (sc := defScope s_maps_symbols_to_amounts) (by decide +kernel)) (fun _ _ _ _ _ => (pg_name (i := 1) sc_maps_symbols_to_amounts.nd rfl (by first | exact Or.inl rfl | exact Or.inr rfl))) (fun _ _ _ _ _ => pts_nil) (fun _ _ _ _ _ => (pe_and (pg_call (ok_is_symbol T) (hr.mono (by decide)) hg (by rfl) T.g_is_symbol T.F_is_symbol.kp T.b_is_symbol .nil pass0 (pa_cons (pv 1) pa_nil)) (pe_one (pg_call (ok_is_amount T) (hr.mono (by decide)) hg (by rfl) T.g_is_amount T.F_is_amount.kp T.b_is_amount .nil pass0 (pa_cons (pe_dget (Nat.lt_of_le_of_lt (Nat.add_le_add_left (by decide : 1 ≤ 64) _) hr.units) (pv 0) (pv 1) (fun _ _ => rfl)) pa_nil))))))) pa_nil))))), ?_⟩
    walk_at "st"
    repeat walk_at "rd"
    refine r_isi (b := true) (.base (.dK hd)) (.ty _) (kit_ty (by decide +kernel)) ?_
    repeat walk_at "rd"
    refine r_lockE hd trivial (fun od H1 e1 ne1 => ?_)
    repeat walk_at "rd"
    refine ⟨d, od, rfl, .inl ⟨kvs, e1, u_lcK (fun D H2 hD sD eD nD => ?_)⟩⟩
    have nDd : D ≠ d := by
      rintro rfl
      rw [e1] at hD
      cases hD
    refine ⟨fun i H' => H' D = some (.lst ((List.replicate i true).map V.bl)) ∧ H' d = some (.frz od (.dK kvs)) ∧ ∀ b, b ≠ d → ∀ o, H b = some o → H' b = some o, ⟨eD, sD _ _ e1, fun b hb o eb => sD b o (by rw [ne1 b hb]; exact eb)⟩, fun i H' _ z => z.2.1, ?_, ?_⟩
    · rintro i key v H3 hi ⟨e3, f3, k3⟩
      obtain ⟨x, ex, rfl, hv⟩ := hw.get i key v hi
      obtain ⟨s1, s2⟩ := hs x (List.mem_of_getElem? ex)
      have hi2 : i < kvs.length := (List.getElem?_eq_some_iff.mp hi).1
      have hv3 : AmtV K H3 v x.2.1 x.2.2 := by
        rcases hv with ⟨a, e, dx, h⟩ | h
        · exact .inl ⟨a, e, dx, k3 a (fun z => by rw [z, hd] at h; cases h) _ h⟩
        · exact .inr h
      dsimp only [L2.kV]
      repeat walk_at "rd"
      refine ⟨rfl, ?_⟩
      repeat walk_at "rd"
      refine r_yes s1 ?_
      repeat walk_at "rd"
      refine ⟨d, v, rfl, .inl ⟨kvs, .inr x.1, .inr ⟨od, f3⟩, rfl, (valV_at nd hi).symm⟩, ?_⟩
      repeat walk_at "rd"
      refine ⟨v, _, _, rfl, hv3, ?_⟩
      refine g_grow e3 (by rw [List.length_map, List.length_replicate]; omega) (fun H5 e5 ne5 => ⟨by rw [e5, List.replicate_succ', List.map_append]; rfl, by rw [ne5 d nDd.symm]; exact f3, fun b hb o eb => ?_⟩)
      rw [ne5 b (fun z => by rw [z] at eb hb; rw [ne1 D hb] at hD; rw [hD] at eb; cases eb)]
      exact k3 b hb o eb
    · rintro H3 ⟨e3, f3, k3⟩
      refine ⟨f3, ?_⟩
      repeat walk_at "rd"
      refine r_all (.inl (.inl (by rw [upd_ne nDd]; exact e3))) ?_
      rw [show (List.replicate kvs.length true).all id = true from by rw [List.all_replicate]; simp]
      refine k _ (fun b o eb => ?_)
      by_cases hb : b = d
      · subst hb
        rw [upd_same, ← hd]
        exact eb
      · rw [upd_ne hb]
        exact k3 b hb o eb
theorem sc_Form_weight : FnScope ["self", "symbol"] ["self", "symbol"] (defScope s_Form_weight) := ⟨rfl, rfl, rfl, by decide +kernel, rfl, by decide +kernel, by decide +kernel⟩
theorem ok_Form_weight (T : Tx K mg) : FnG P w K mg base CX0 true 4 (He.ma K (He.ga K "Form") "weight") T.fd_Form_weight ["self", "symbol"] (sp_wt K) := by
  refine funG T.F_Form_weight sc_Form_weight (fun vs H Q E h => ?_) (fun cdv A outer s H vs Q E hr hg h => ?_)
  · obtain ⟨a, c, ws, z, e, _⟩ := h; rw [e]; rfl
  · obtain ⟨a, c, ws, z, rfl, ha, hz, hl, k⟩ := h
    refine ⟨_, (pss_cons (ps_if (pt_not (pt_val (pg_call (ok_is_symbol T) (hr.mono (by decide)) hg (by rfl) T.g_is_symbol T.F_is_symbol.kp T.b_is_symbol .nil pass0 (pa_cons (pv 1) pa_nil)))) (pss_one ps_never) pss_nil)
    (pss_one (ps_ret (pe_dget2 (Nat.lt_of_le_of_lt (Nat.add_le_add_left (by decide : 1 ≤ 64) _) hr.units) (pe_fld (pv 0) rfl) (pv 1) (pg_make T.k_Amount (ok_AmountU_initU T) (hr.mono (by decide)) hg (by rfl) T.g_Amount T.b_AmountU_initU_1.choose_spec.2 T.b_AmountU_initU_1.choose_spec.1 pass0 (pa_cons pe_int pa_nil)) ⟨by rfl, by rfl, by rfl, by rfl⟩)))), ?_⟩
    obtain ⟨dx, ca, d, kvs, ea, hc, hd, hw⟩ := id ha
    walk_at "st"
    repeat walk_at "rd"
    rw [hz]
    repeat walk_at "rd"
    refine q_fld ea T.c_Form T.n_Form_weights (frmF_w ca d) ?_
    refine ⟨d, rfl, .inl ⟨kvs, .inl hd⟩, ?_⟩
    repeat walk_at "rd"
    refine use_make rfl (by decide) (by unfold Sz; decide +kernel) (fun n H1 s1 _ hn => ?_)
    rw [low_one] at hn
    rcases hw.get (z := z) with ⟨e1, e2⟩ | ⟨wa, e1, hwa⟩
    · refine ⟨none, .inl ⟨kvs, .inr z, .inl (s1 _ _ hd), rfl, e1.symm⟩, k n H1 s1 ?_⟩
      rw [e2]
      exact hn
    · exact ⟨some (.ref wa), .inl ⟨kvs, .inr z, .inl (s1 _ _ hd), rfl, e1.symm⟩, k wa H1 s1 (hwa.same s1)⟩

end
theorem r_ifR {P : Prop} [Decidable P] {ta tb : TE} {σ : L2.St} {H : Hp} {Q : VK} (R : V → Hp → Prop) (h1 : P → ∀ Q : VK, (∀ x H', R x H' → Q x H') → ta σ H Q) (h2 : ¬ P → ∀ Q : VK, (∀ x H', R x H' → Q x H') → tb σ H Q) (hq : ∀ x H', R x H' → Q x H') :
    if decide P = true then ta σ H Q else tb σ H Q := r_dec (fun e => h1 e Q hq) (fun e => h2 e Q hq)
theorem take_new {α β : Type} {f : α → β} {l : List α} {i : Nat} {y : α} (nd : (l.map f).Nodup) (h : l[i]? = some y) : f y ∉ (l.take i).map f := by
  have e : l.map f = (l.take i).map f ++ (l.drop i).map f := by rw [← List.map_append, List.take_append_drop]
  rw [e, List.nodup_append] at nd
  intro m
  have hd : y ∈ l.drop i := by
    rw [List.mem_iff_getElem?]
    exact ⟨0, by rw [List.getElem?_drop]; simpa using h⟩
  exact nd.2.2 _ m _ (List.mem_map.mpr ⟨y, hd, rfl⟩) rfl
theorem AmtAt.offK {K : PySem.W.Frag} {D a : Addr} {H H' : Hp} {t b : Int} {l : List (Key × V)} (h : AmtAt K H a t b) (hD : H D = some (.dK l)) (ne : ∀ b, b ≠ D → H' b = H b) : AmtAt K H' a t b := by
  obtain ⟨dx, e⟩ := h
  exact ⟨dx, by rw [ne a (fun z => by rw [z, hD] at e; cases e)]; exact e⟩
theorem clean_snoc (ws : Ws) (i : Nat) (y : Str × Int × Int) (h : ws[i]? = some y) : clean (ws.take (i + 1)) = clean (ws.take i) ++ (if y.2.1 = 0 then [] else [y]) := by
  unfold clean
  rw [List.take_add_one, h, List.filter_append]
  by_cases e : y.2.1 = 0
  · rw [if_pos e]
    simp [e]
  · rw [if_neg e]
    simp [e]
theorem clean_keys {ws : Ws} {z : Str} (h : z ∈ (clean ws).map fun w => w.1) : z ∈ ws.map fun w => w.1 := by
  obtain ⟨w, hw, e⟩ := List.mem_map.mp h
  exact List.mem_map.mpr ⟨w, (List.mem_filter.mp hw).1, e⟩
section
variable {P : Program} {w : World} {K : PySem.W.Frag} {mg : Str → Option Value} {base : Heap}
theorem sc_FormU_initU : FnScope ["self", "constant", "weights", "given", "amounts", "symbol"] ["self", "constant", "weights"] (defScope s_FormU_initU) := ⟨rfl, rfl, rfl, by decide +kernel, rfl, by decide +kernel, by decide +kernel⟩
theorem ok_FormU_initU (T : Tx K mg) : FnG P w K mg base CX0 true 5 (He.ma K (He.ga K "Form") "__init__") T.fd_FormU_initU ["self", "constant", "weights"] (sp_frm K) := by
  refine funG T.F_FormU_initU sc_FormU_initU (fun vs H Q E h => ?_) (fun cdv A outer s H vs Q E hr hg h => ?_)
  · obtain ⟨p, dx, cv, c, wv, ws, e, _⟩ := h; rw [e]; rfl
  · obtain ⟨p, dx, cv, c, wv, ws, rfl, hp, hcv, hwv, k⟩ := h
    refine ⟨_, (pss_cons (ps_fld (pv 0) (pg_call (ok_amount_of T) (hr.mono (by decide)) hg (by rfl) T.g_amount_of T.F_amount_of.kp T.b_amount_of .nil pass0 (pa_cons (pv 1) pa_nil)) rfl)
    (pss_cons (ps_set (i := 3) sc_FormU_initU.nd rfl (by first | exact Or.inl rfl | exact Or.inr rfl) (pe_ifExp (pt_cmpR op_isN (pv 2) pe_non (nomark _)) pe_dnewK (pv 2)))
    (pss_cons (ps_if (pt_not (pt_val (pg_call (ok_maps_symbols_to_amounts T) (hr.mono (by decide)) hg (by rfl) T.g_maps_symbols_to_amounts T.F_maps_symbols_to_amounts.kp T.b_maps_symbols_to_amounts .nil pass0 (pa_cons (pv 3) pa_nil)))) (pss_one ps_never) pss_nil)
    (pss_cons (ps_set (i := 4) sc_FormU_initU.nd rfl (by first | exact Or.inl rfl | exact Or.inr rfl) (pe_dc (own := [("symbol", 5)]) (by rfl) sc_FormU_initU.nd (pi_list (pe_callB (call_sortedD rfl) (by rfl) T.m_sorted (by decide +kernel) (pa_cons (pv 3) pa_nil))) (blkOk_by (own := [("symbol", 5)]) (N := ["self", "constant", "weights", "given", "amounts", "symbol"]) (sc := defScope s_FormU_initU) (by decide +kernel)) (fun _ _ _ _ _ => (pg_name (i := 5) sc_FormU_initU.nd rfl (by first | exact Or.inl rfl | exact Or.inr rfl))) (fun _ _ _ _ _ => pts_nil) (fun _ _ _ _ _ => (pv 5)) (fun _ _ _ _ _ => (pg_call (ok_amount_of T) (hr.mono (by decide)) hg (by rfl) T.g_amount_of T.F_amount_of.kp T.b_amount_of .nil pass0 (pa_cons (pe_dget (Nat.lt_of_le_of_lt (Nat.add_le_add_left (by decide : 1 ≤ 64) _) hr.units) (pv 3) (pv 5) (fun _ _ => rfl)) pa_nil)))))
    (pss_one (ps_fld (pv 0) (pe_lock (pe_dc (own := [("symbol", 5)]) (by rfl) sc_FormU_initU.nd (pi_keys (pv 4)) (blkOk_by (own := [("symbol", 5)]) (N := ["self", "constant", "weights", "given", "amounts", "symbol"]) (sc := defScope s_FormU_initU) (by decide +kernel)) (fun _ _ _ _ _ => (pg_name (i := 5) sc_FormU_initU.nd rfl (by first | exact Or.inl rfl | exact Or.inr rfl))) (fun _ _ _ _ _ => (pts_one (pt_truthK (K' := K) (pg_prop (pe_dget (Nat.lt_of_le_of_lt (Nat.add_le_add_left (by decide : 1 ≤ 64) _) hr.units) (pv 4) (pv 5) (fun _ _ => rfl)) T.c_Amount T.p_Amount_sign (ok_Amount_sign T) (hr.mono (by decide)) hg T.b_Amount_sign .nil pass0 rfl) (by intro _; rfl)))) (fun _ _ _ _ _ => (pv 5)) (fun _ _ _ _ _ => (pe_dget (Nat.lt_of_le_of_lt (Nat.add_le_add_left (by decide : 1 ≤ 64) _) hr.units) (pv 4) (pv 5) (fun _ _ => rfl))))) rfl)))))), ?_⟩
    walk_at "st"
    repeat walk_at "rd"
    refine use_of hcv (fun ca H1 s1 hca => ?_)
    repeat walk_at "rd"
    refine ⟨_, _, _, _, rfl, s1 _ _ hp, T.c_Form, T.n_Form_constant, by decide, ?_⟩
    repeat walk_at "rd"
    refine ⟨rfl, ?_⟩
    generalize e2 : upd H1 p (HO.ins (He.ga K (Str.ofString "Form")) dx (putF (Str.ofString "_constant") (V.ref ca) [])) = H2
    have p2 : H2 p = some (.ins (He.ga K "Form") dx (putF "_constant" (.ref ca) [])) := by rw [← e2, upd_same]
    have n2 : ∀ b, b ≠ p → H2 b = H1 b := fun b hb => by rw [← e2, upd_ne hb]
    have a12 : ∀ a t b, AmtAt K H1 a t b → AmtAt K H2 a t b := fun a t b h => by
      have h' := h
      obtain ⟨dy, e⟩ := h
      exact ⟨dy, by rw [n2 a (h'.not_new (s1 _ _ hp))]; exact e⟩
    have kp2 : ∀ b o, b ≠ p → H b = some o → H2 b = some o := fun b o hb e => by rw [n2 b hb]; exact s1 b o e
    clear e2
    repeat walk_at "rd"
    refine r_ifR (fun x H' => ∃ d kvs, x = V.ref d ∧ H' d = some (.dK kvs) ∧ WsV K H' kvs ws ∧ (∀ w ∈ ws, symB w.1 = true ∧ w.1.length ≤ sizeLine) ∧ (kvs.map (·.1)).Nodup ∧ kvs.length < 64 ∧ Same H2 H') (fun e Q kq => ?_) (fun e Q kq => ?_) ?_
    · rcases hwv with ⟨_, rfl⟩ | ⟨d, kvs, rfl, _⟩
      · intro g hg
        exact kq _ _ ⟨g, [], rfl, upd_same, .nil, (fun w hw => by cases hw), List.nodup_nil, by decide, fun b o eb => by rw [upd_ne (ne_of_none eb hg)]; exact eb⟩
      · cases e
    · rcases hwv with ⟨rfl, _⟩ | ⟨d, kvs, rfl, hd, hw, hs, nd, hl⟩
      · exact absurd rfl e
      · repeat walk_at "rd"
        exact kq _ _ ⟨d, kvs, rfl, kp2 d _ (fun z => by rw [z, hp] at hd; cases hd) hd, hw.mono (fun a t b h => a12 a t b (h.same s1)), hs, nd, hl, fun _ _ e => e⟩
    rintro x H3 ⟨d, kvs, rfl, hd, hw, hs, nd, hl, s3⟩
    repeat walk_at "rd"
    refine ⟨d, kvs, ws, rfl, hd, hw, hs, nd, by omega, fun H4 s4 => ?_⟩
    have hd := s4 _ _ hd
    have hw := hw.same s4
    repeat walk_at "rd"
    refine ⟨d, kvs, ws.map fun w => w.1, rfl, .inl hd, hw.keys, by rw [← List.length_map (f := Sum.inr (α := Int)), ← hw.keys, List.length_map]; exact hl, fun ys l perm srt hlf => ?_⟩
    obtain ⟨ws2, pm, rfl⟩ := perm_lift perm ws rfl
    generalize e5 : upd H4 l (HO.lst (List.map V.str (List.map (fun w => w.1) ws2))) = H5
    have l5 : H5 l = some (.lst ((ws2.map fun w => w.1).map V.str)) := by rw [← e5, upd_same]
    have s5 : Same H4 H5 := fun b o eb => by rw [← e5, upd_ne (ne_of_none eb hlf)]; exact eb
    clear e5
    have hd := s5 _ _ hd
    have hw := hw.same s5
    repeat walk_at "rd"
    have nk : (ws2.map fun w => w.1).Nodup := by
      have n1 : ((ws.map fun w => w.1).map Sum.inr : List Key).Nodup := by rw [← hw.keys]; exact nd
      exact perm.nodup_iff.mpr (List.Pairwise.of_map Sum.inr (fun a b h e => h (congrArg _ e)) n1)
    have lw : ws2.length < 64 := by
      have l1 := pm.length_eq
      have l2 := congrArg List.length hw.keys
      rw [List.length_map, List.length_map, List.length_map] at l2
      omega
    refine u_dcL (xs := (ws2.map fun w => w.1).map V.str) (fun D H6 hD sD eD nD => ?_)
    refine ⟨fun i H' => ∃ akvs, H' D = some (.dK akvs) ∧ WsAt K H' akvs (ws2.take i) ∧ Same H5 H', ⟨[], eD, .nil, sD⟩, fun i H' _ z => .inl (.inl (by obtain ⟨_, _, _, s⟩ := z; exact s _ _ l5)), ?_, ?_⟩
    · rintro i x H7 hx ⟨akvs, e7, w7, s7⟩
      rw [List.map_map, List.getElem?_map] at hx
      obtain ⟨y, ey, rfl⟩ := Option.map_eq_some_iff.mp hx
      obtain ⟨v, ev, hv⟩ := hw.val nd y (pm.mem_iff.mp (List.mem_of_getElem? ey))
      have hi : i < ws2.length := (List.getElem?_eq_some_iff.mp ey).1
      repeat walk_at "rd"
      refine ⟨rfl, ?_⟩
      dsimp only [Function.comp]
      repeat walk_at "rd"
      refine ⟨d, v, rfl, .inl ⟨kvs, .inr y.1, .inl (s7 _ _ hd), rfl, ev.symm⟩, ?_⟩
      repeat walk_at "rd"
      refine use_of (hv.same s7) (fun na H8 s8 hna => ?_)
      have e8 := s8 _ _ e7
      have la := w7.length
      rw [List.length_take] at la
      refine g_growD (k := .inr y.1) e8 (by omega) (fun kv hkv e => ?_) (fun H9 e9 ne9 => ⟨_, e9, ?_, fun b o eb => by rw [ne9 b (ne_of_none eb hD)]; exact s8 _ _ (s7 _ _ eb)⟩)
      · have m1 : kv.1 ∈ akvs.map fun x => x.1 := List.mem_map.mpr ⟨kv, hkv, rfl⟩
        rw [w7.keysI, e] at m1
        obtain ⟨z, hz, ez⟩ := List.mem_map.mp m1
        exact take_new nk ey (Sum.inr.inj ez ▸ hz)
      · rw [List.take_add_one, ey]
        exact (((w7.same s8).mono fun a t b h => h.offK e8 ne9)).snoc (hna.offK e8 ne9)
    · rintro H7 ⟨akvs, e7, w7, s7⟩
      rw [List.length_map, List.length_map, List.take_length] at w7
      repeat walk_at "rd"
      refine r_lockE e7 trivial (fun od H8 e8 ne8 => ?_)
      repeat walk_at "rd"
      have nA : (akvs.map fun x => x.1).Nodup := by
        rw [w7.keysI]
        exact List.Pairwise.map Sum.inr (fun a b h e => h (Sum.inr.inj e)) nk
      refine ⟨D, od, rfl, .inl ⟨akvs, e8, u_dcK (fun D2 H9 hD2 sD2 eD2 nD2 => ?_)⟩⟩
      have nDD : D ≠ D2 := ne_of_none e8 hD2
      refine ⟨fun i H' => ∃ bkvs, H' D2 = some (.dK bkvs) ∧ WsAt K H' bkvs (clean (ws2.take i)) ∧ H' D = some (.frz od (.dK akvs)) ∧ ∀ b, b ≠ D → ∀ o, H7 b = some o → H' b = some o, ⟨[], eD2, .nil, sD2 _ _ e8, fun b hb o eb => sD2 b o (by rw [ne8 b hb]; exact eb)⟩, fun i H' _ z => by obtain ⟨_, _, _, f, _⟩ := z; exact f, ?_, ?_⟩
      · rintro i key v H10 hi ⟨bkvs, e10, w10, f10, k10⟩
        obtain ⟨y, a, ey, rfl, rfl, ha⟩ := w7.get2 i key v hi
        have hi2 : i < ws2.length := (List.getElem?_eq_some_iff.mp ey).1
        have ha10 : AmtAt K H10 a y.2.1 y.2.2 := by
          obtain ⟨dy, e⟩ := ha
          exact ⟨dy, k10 a (fun z => by rw [z, e7] at e; cases e) _ e⟩
        dsimp only [L2.kV]
        repeat walk_at "rd"
        refine ⟨rfl, ?_⟩
        repeat walk_at "rd"
        refine ⟨D, .ref a, rfl, .inl ⟨akvs, .inr y.1, .inr ⟨od, f10⟩, rfl, (valV_at nA hi).symm⟩, ?_⟩
        repeat walk_at "rd"
        by_cases h0 : y.2.1 = 0
        · refine ⟨false, by show false = (sgn y.2.1 != 0); unfold sgn; rw [if_pos h0]; rfl, ?_⟩
          rw [if_neg Bool.false_ne_true]
          exact ⟨bkvs, e10, by rw [clean_snoc ws2 i y ey, if_pos h0, List.append_nil]; exact w10, f10, k10⟩
        · refine ⟨true, by show true = (sgn y.2.1 != 0); unfold sgn; rw [if_neg h0]; split <;> rfl, ?_⟩
          rw [if_pos rfl]
          repeat walk_at "rd"
          refine ⟨D, .ref a, rfl, .inl ⟨akvs, .inr y.1, .inr ⟨od, f10⟩, rfl, (valV_at nA hi).symm⟩, ?_⟩
          have lb := w10.length
          have lc : (clean (ws2.take i)).length ≤ i := Nat.le_trans (List.length_filter_le _ _) (by rw [List.length_take]; omega)
          refine g_growD (k := .inr y.1) e10 (by omega) (fun kv hkv e => ?_) (fun H11 e11 ne11 => ⟨_, e11, ?_, by rw [ne11 D nDD]; exact f10, fun b hb o eb => ?_⟩)
          · have m1 : kv.1 ∈ bkvs.map fun x => x.1 := List.mem_map.mpr ⟨kv, hkv, rfl⟩
            rw [w10.keysI, e] at m1
            obtain ⟨z, hz, ez⟩ := List.mem_map.mp m1
            exact take_new nk ey (Sum.inr.inj ez ▸ clean_keys hz)
          · rw [clean_snoc ws2 i y ey, if_neg h0]
            exact (w10.mono fun a t b h => h.offK e10 ne11).snoc (ha10.offK e10 ne11)
          · rw [ne11 b (fun z => by rw [z] at eb hb; rw [ne8 D2 hb, eb] at hD2; cases hD2)]
            exact k10 b hb o eb
      · rintro H10 ⟨bkvs, e10, w10, f10, k10⟩
        refine ⟨f10, ?_⟩
        repeat walk_at "rd"
        have p5 := s5 _ _ (s4 _ _ (s3 _ _ p2))
        have pD : p ≠ D := ne_of_none p5 hD
        have p10 := k10 p pD _ (s7 _ _ p5)
        have fin : ∀ a t b, AmtAt K H10 a t b → AmtAt K (upd (upd H10 D (.dK akvs)) p (.ins (He.ga K "Form") dx (frmF ca D2))) a t b := fun a t b h => by
          have h' := h
          obtain ⟨dy, e⟩ := h
          exact ⟨dy, by rw [upd_ne (h'.not_c p10), upd_ne (fun z => by rw [z, f10] at e; cases e)]; exact e⟩
        have c7 : AmtAt K H7 ca c.1 c.2 := ((((a12 _ _ _ hca).same s3).same s4).same s5).same s7
        have c10 : AmtAt K H10 ca c.1 c.2 := by
          obtain ⟨dy, e⟩ := c7
          exact ⟨dy, k10 ca (fun z => by rw [z, e7] at e; cases e) _ e⟩
        refine ⟨_, _, _, _, rfl, (by rw [upd_ne pD]; exact p10), T.c_Form, T.n_Form_weights, Nat.lt_of_le_of_lt (length_putF _ _ []) (by decide), ?_⟩
        have nD2H : H D2 = none := by
          cases z : H D2 with
          | none => rfl
          | some o =>
            have e7D : H7 D2 = none := by rw [← ne8 D2 nDD.symm]; exact hD2
            by_cases hp' : D2 = p
            · rw [hp', s7 _ _ p5] at e7D
              cases e7D
            · rw [s7 _ _ (s5 _ _ (s4 _ _ (s3 _ _ (kp2 D2 o hp' z))))] at e7D
              cases e7D
        refine k _ ws2 ca D2 bkvs pm srt (fun b o hb eb => ?_) upd_same (fin _ _ _ c10) ?_ ?_ nD2H
        · have b5 := s5 _ _ (s4 _ _ (s3 _ _ (kp2 b o hb eb)))
          have bD : b ≠ D := ne_of_none b5 hD
          rw [upd_ne hb, upd_ne bD]
          exact k10 b bD o (s7 _ _ b5)
        · rw [upd_ne (fun z => by rw [z, p10] at e10; cases e10), upd_ne nDD.symm]
          exact e10
        · rw [w7.length, List.take_length] at w10
          exact w10.mono fin
/-- a Form whose dict of weights was not there before -/
def FrmAtN (K : PySem.W.Frag) (H0 H : Hp) (a : Addr) (c : Int × Int) (ws : Ws) : Prop := ∃ dx ca d kvs, H a = some (.ins (He.ga K "Form") dx (frmF ca d)) ∧ AmtAt K H ca c.1 c.2 ∧ H d = some (.dK kvs) ∧ WsAt K H kvs ws ∧ H0 d = none
theorem FrmAtN.frm {K : PySem.W.Frag} {H0 H : Hp} {a : Addr} {c : Int × Int} {ws : Ws} (h : FrmAtN K H0 H a c ws) : FrmAt K H a c ws := let ⟨dx, ca, d, kvs, h1, h2, h3, h4, _⟩ := h; ⟨dx, ca, d, kvs, h1, h2, h3, h4⟩
theorem use_mkFN {H : Hp} {R : Addr → Hp → Prop} {E : XK} {cv wv : V} {c : Int × Int} {ws : Ws} {vs : List V} (e : vs = [cv, wv]) (hc : AmtV K H cv c.1 c.2) (hw : WIn K H wv ws) (q : ∀ a H' ws2, Same H H' → H a = none → ws2.Perm ws → sortedS (ws2.map fun w => w.1) = true → FrmAtN K H H' a c (clean ws2) → R a H') :
    ∀ x dx, H x = none → H dx = none → dx ≠ x → sp_frm K (.ref x :: vs) (upd (upd H dx (.own x)) x (.ins (He.ga K "Form") dx [])) (fun v H2 => v = .non ∧ R x H2) E := by
  subst e
  intro x dx hx hdx hne
  have sm : Same H (upd (upd H dx (.own x)) x (.ins (He.ga K "Form") dx [])) := fun b o eb => by rw [upd_ne (ne_of_none eb hx), upd_ne (ne_of_none eb hdx)]; exact eb
  refine ⟨x, dx, cv, c, wv, ws, rfl, upd_same, hc.same sm, ?_, fun H' ws2 ca d kvs pm srt keep hp hca hd hws hnd => ⟨rfl, ?_⟩⟩
  · rcases hw with h | ⟨d, kvs, e, hd, hw, r⟩
    · exact .inl h
    · exact .inr ⟨d, kvs, e, sm _ _ hd, hw.same sm, r⟩
  · exact q x H' ws2 (fun b o eb => keep b o (ne_of_none eb hx) (sm b o eb)) hx pm srt ⟨dx, ca, d, kvs, hp, hca, hd, hws, by
      cases z : H d with
      | none => rfl
      | some o => rw [sm _ _ z] at hnd; cases hnd⟩

theorem use_mkF {H : Hp} {R : Addr → Hp → Prop} {E : XK} {cv wv : V} {c : Int × Int} {ws : Ws} {vs : List V} (e : vs = [cv, wv]) (hc : AmtV K H cv c.1 c.2) (hw : WIn K H wv ws) (q : ∀ a H' ws2, Same H H' → H a = none → ws2.Perm ws → sortedS (ws2.map fun w => w.1) = true → FrmAt K H' a c (clean ws2) → R a H') :
    ∀ x dx, H x = none → H dx = none → dx ≠ x → sp_frm K (.ref x :: vs) (upd (upd H dx (.own x)) x (.ins (He.ga K "Form") dx [])) (fun v H2 => v = .non ∧ R x H2) E :=
  use_mkFN e hc hw fun a H' ws2 s ha pm srt h => q a H' ws2 s ha pm srt h.frm

end
/-! ### forms as they are reckoned -/
def canon (ws : Ws) : Ws := clean (sortK (fun w => w.1) ws)
/-- what the terms of a Form keep to: symbols, each once, few of them; numbers of at most n bits, bottoms that are not 0 -/
structure WOk (n : Nat) (ws : Ws) : Prop where
  sym : ∀ w ∈ ws, symB w.1 = true ∧ w.1.length ≤ sizeLine
  nd : (ws.map fun w => w.1).Nodup
  few : ws.length < 64
  num : ∀ w ∈ ws, w.2.2 ≠ 0 ∧ Sz n w.2.1 ∧ Sz n w.2.2
theorem WsAt.wsv {K : PySem.W.Frag} {H : Hp} {kvs : List (Key × V)} {ws : Ws} (h : WsAt K H kvs ws) : WsV K H kvs ws := by
  induction h with
  | nil => exact .nil
  | cons a _ ih => exact .cons (.inl ⟨_, rfl, a⟩) ih
theorem nodup_keys {kvs : List (Key × V)} {ws : Ws} (e : kvs.map (fun x => x.1) = (ws.map fun w => w.1).map Sum.inr) (nd : (ws.map fun w => w.1).Nodup) : (kvs.map (·.1)).Nodup := by
  show (kvs.map fun x => x.1).Nodup
  rw [e]
  exact List.Pairwise.map Sum.inr (fun a b h e => h (Sum.inr.inj e)) nd
theorem win_of {K : PySem.W.Frag} {H : Hp} {d : Addr} {kvs : List (Key × V)} {ws : Ws} (hd : H d = some (.dK kvs)) (hw : WsAt K H kvs ws) (hs : ∀ w ∈ ws, symB w.1 = true ∧ w.1.length ≤ sizeLine) (nd : (ws.map fun w => w.1).Nodup) (hl : ws.length < 64) : WIn K H (.ref d) ws :=
  .inr ⟨d, kvs, rfl, hd, hw.wsv, hs, nodup_keys hw.keysI nd, by rw [hw.length]; exact hl⟩
theorem use_mkC {K : PySem.W.Frag} {H : Hp} {R : Addr → Hp → Prop} {E : XK} {cv wv : V} {c : Int × Int} {ws : Ws} {vs : List V} (e : vs = [cv, wv]) (hc : AmtV K H cv c.1 c.2) (hw : WIn K H wv ws) (nd : (ws.map fun w => w.1).Nodup) (q : ∀ a H', Same H H' → H a = none → FrmAt K H' a c (canon ws) → R a H') :
    ∀ x dx, H x = none → H dx = none → dx ≠ x → sp_frm K (.ref x :: vs) (upd (upd H dx (.own x)) x (.ins (He.ga K "Form") dx [])) (fun v H2 => v = .non ∧ R x H2) E :=
  use_mkF e hc hw fun a H' ws2 s ha pm srt hf => q a H' s ha (by rw [sortK_is pm nd srt] at hf; exact hf)
def mulW (ws : Ws) (t b : Int) : Ws := ws.map fun w => (w.1, low (w.2.1 * t) (w.2.2 * b))
theorem mulW_keys {ws : Ws} {t b : Int} : ((mulW ws t b).map fun w => w.1) = ws.map fun w => w.1 := by
  unfold mulW
  rw [List.map_map]
  rfl
theorem mulW_mem {ws : Ws} {t b : Int} {w : Str × Int × Int} (h : w ∈ mulW ws t b) : ∃ y ∈ ws, w = (y.1, low (y.2.1 * t) (y.2.2 * b)) := by
  obtain ⟨y, hy, e⟩ := List.mem_map.mp h
  exact ⟨y, hy, e.symm⟩
theorem mulW_snoc {ws : Ws} {t b : Int} {i : Nat} {y : Str × Int × Int} (h : ws[i]? = some y) : mulW (ws.take (i + 1)) t b = mulW (ws.take i) t b ++ [(y.1, low (y.2.1 * t) (y.2.2 * b))] := by
  unfold mulW
  rw [List.take_add_one, h, List.map_append]
  rfl
/-- a value that stands for a form: a Form, or an amount -/
def FrmV (K : PySem.W.Frag) (H : Hp) (v : V) (c : Int × Int) (ws : Ws) : Prop := (∃ a, v = .ref a ∧ FrmAt K H a c ws) ∨ (AmtV K H v c.1 c.2 ∧ ws = [])
theorem FrmV.same {K : PySem.W.Frag} {H H' : Hp} {v : V} {c : Int × Int} {ws : Ws} (h : FrmV K H v c ws) (s : Same H H') : FrmV K H' v c ws := by
  rcases h with ⟨a, e, h⟩ | ⟨h, e⟩
  · exact .inl ⟨a, e, h.same s⟩
  · exact .inr ⟨h.same s, e⟩
def sp_fof (K : PySem.W.Frag) : Sp := fun vs H Q _ => ∃ v, ∃ c : Int × Int, ∃ ws, vs = [v] ∧ FrmV K H v c ws ∧ ∀ a H', Same H H' → FrmAt K H' a c ws → Q (.ref a) H'
def sp_flin (K : PySem.W.Frag) : Sp := fun vs H Q _ => ∃ a, ∃ c : Int × Int, ∃ ws, vs = [.ref a] ∧ FrmAt K H a c ws ∧ WOk 1800 ws ∧ ∀ p H', Same H H' → FrmAt K H' p (0, 1) (canon ws) → Q (.ref p) H'
def sp_fmul (K : PySem.W.Frag) : Sp := fun vs H Q _ => ∃ a, ∃ c : Int × Int, ∃ ws v t b, vs = [.ref a, v] ∧ FrmAt K H a c ws ∧ WOk 1800 ws ∧ (c.2 ≠ 0 ∧ Sz 1800 c.1 ∧ Sz 1800 c.2) ∧ AmtV K H v t b ∧ (b ≠ 0 ∧ Sz 1800 t ∧ Sz 1800 b) ∧
  ∀ p H', Same H H' → FrmAt K H' p (low (c.1 * t) (c.2 * b)) (canon (mulW ws t b)) → Q (.ref p) H'
theorem clean_nil : clean ([] : Ws) = [] := rfl
theorem canon_nil : canon ([] : Ws) = [] := by
  unfold canon
  rw [sortK, List.mergeSort_nil]
  rfl
theorem r_tY {σ : L2.St} {H : Hp} {Q : Bool → Hp → Prop} (q : Q true H) : tYes σ H Q := q
theorem q_bw {K : PySem.W.Frag} {a C dx : Addr} {fs : List (Str × V)} {H : Hp} {A : Addr → Prop} (h : H a = some (.ins C dx fs)) (q : A a) : ∃ a' dx fs, V.ref a = .ref a' ∧ H a' = some (.ins C dx fs) ∧ A a' := ⟨a, dx, fs, rfl, h, q⟩
def sp_fneg (K : PySem.W.Frag) : Sp := fun vs H Q _ => ∃ a, ∃ c : Int × Int, ∃ ws, vs = [.ref a] ∧ FrmAt K H a c ws ∧ WOk 1800 ws ∧ (c.2 ≠ 0 ∧ Sz 1800 c.1 ∧ Sz 1800 c.2) ∧ ∀ p H', Same H H' → FrmAt K H' p (low (c.1 * -1) (c.2 * 1)) (canon (mulW ws (-1) 1)) → Q (.ref p) H'
def sp_fover (K : PySem.W.Frag) : Sp := fun vs H Q _ => ∃ a, ∃ c : Int × Int, ∃ ws v t b, vs = [.ref a, v] ∧ FrmAt K H a c ws ∧ WOk 1800 ws ∧ (c.2 ≠ 0 ∧ Sz 1800 c.1 ∧ Sz 1800 c.2) ∧ AmtV K H v t b ∧ (b ≠ 0 ∧ t ≠ 0 ∧ Sz 1700 t ∧ Sz 1700 b) ∧
  ∀ p H', Same H H' → FrmAt K H' p (low (c.1 * (low (1 * b) (1 * t)).1) (c.2 * (low (1 * b) (1 * t)).2)) (canon (mulW ws (low (1 * b) (1 * t)).1 (low (1 * b) (1 * t)).2)) → Q (.ref p) H'
theorem FrmAt.ins {K : PySem.W.Frag} {H : Hp} {a : Addr} {c : Int × Int} {ws : Ws} (h : FrmAt K H a c ws) : InsAt (He.ga K "Form") H a := let ⟨dx, ca, d, kvs, e, _⟩ := h; ⟨dx, _, e⟩
theorem q_methA {K : PySem.W.Frag} {H : Hp} {a : Addr} {t b : Int} {m : Str} {A : Prop} (h : AmtAt K H a t b) (h1 : ¬ m = "_bottom") (h2 : ¬ m = "_top") (q : A) : ∃ a' dx fs, V.ref a = .ref a' ∧ H a' = some (.ins (He.ga K "Amount") dx fs) ∧ fs.lookup m = none ∧ A := let ⟨dx, e⟩ := h; ⟨a, dx, _, rfl, e, amtF_no t b h1 h2, q⟩
/-- the weights of the other form are added, in their sequence -/
def putW (ws : Ws) (z : Str) (u : Int × Int) : Ws := if ws.any (fun w => decide (w.1 = z)) then ws.map (fun w => if w.1 = z then (w.1, u) else w) else ws ++ [(z, u)]
def sumA (u v : Int × Int) : Int × Int := low (u.1 * v.2 + v.1 * u.2) (u.2 * v.2)
def addOne (ws : Ws) (w : Str × Int × Int) : Ws := putW ws w.1 (if ws.any (fun y => decide (y.1 = w.1)) then sumA (wsGet ws w.1) w.2 else w.2)
def addW (ws ws2 : Ws) : Ws := ws2.foldl addOne ws
def sp_fadd (K : PySem.W.Frag) : Sp := fun vs H Q _ => ∃ a, ∃ c : Int × Int, ∃ ws v, ∃ c2 : Int × Int, ∃ ws2, vs = [.ref a, v] ∧ FrmAt K H a c ws ∧ WOk 800 ws ∧ (c.2 ≠ 0 ∧ Sz 800 c.1 ∧ Sz 800 c.2) ∧ FrmV K H v c2 ws2 ∧ WOk 800 ws2 ∧ (c2.2 ≠ 0 ∧ Sz 800 c2.1 ∧ Sz 800 c2.2) ∧ ws.length + ws2.length < 64 ∧
  ∀ p H', Same H H' → FrmAt K H' p (sumA c c2) (canon (addW ws ws2)) → Q (.ref p) H'
theorem putW_keys {ws : Ws} {z : Str} {u : Int × Int} : (putW ws z u).map (fun w => w.1) = if ws.any (fun w => decide (w.1 = z)) then ws.map (fun w => w.1) else ws.map (fun w => w.1) ++ [z] := by
  unfold putW
  split
  · rw [List.map_map]
    refine List.map_congr_left fun w _ => ?_
    show (if w.1 = z then (w.1, u) else w).1 = w.1
    split <;> rfl
  · rw [List.map_append]
    rfl
theorem WsAt.any {K : PySem.W.Frag} {H : Hp} {kvs : List (Key × V)} {ws : Ws} {z : Str} (h : WsAt K H kvs ws) : kvs.any (fun kv => decide (kv.1 = .inr z)) = ws.any (fun w => decide (w.1 = z)) := by
  induction h with
  | nil => rfl
  | @cons y a t b kvs ws ha _ ih =>
    rw [List.any_cons, List.any_cons, ih]
    have e : decide ((Sum.inr y : Key) = .inr z) = decide (y = z) := decide_eq_decide.mpr ⟨fun h => Sum.inr.inj h, fun h => by rw [h]⟩
    rw [show decide (((Sum.inr y : Key), V.ref a).1 = .inr z) = decide ((Sum.inr y : Key) = .inr z) from rfl, e]
theorem WsAt.put {K : PySem.W.Frag} {H : Hp} {kvs : List (Key × V)} {ws : Ws} {z : Str} {a : Addr} {u : Int × Int} (h : WsAt K H kvs ws) (ha : AmtAt K H a u.1 u.2) : WsAt K H (putK kvs (.inr z) (.ref a)) (putW ws z u) := by
  have go : ∀ {kvs : List (Key × V)} {ws : Ws}, WsAt K H kvs ws → WsAt K H (kvs.map fun kv => if kv.1 = .inr z then (kv.1, V.ref a) else kv) (ws.map fun w => if w.1 = z then (w.1, u) else w) := by
    intro kvs ws h
    induction h with
    | nil => exact .nil
    | @cons y p t b kvs ws hp _ ih =>
      rw [List.map_cons, List.map_cons]
      by_cases e : y = z
      · subst e
        rw [if_pos rfl, if_pos rfl]
        exact .cons ha ih
      · rw [if_neg (fun q => e (Sum.inr.inj q)), if_neg e]
        exact .cons hp ih
  have e := h.any (z := z)
  unfold putK putW
  rw [e]
  split
  · exact go h
  · exact h.snoc ha
theorem val_any {kvs : List (Key × V)} {k : Key} : (valV kvs k).isSome = kvs.any (fun kv => decide (kv.1 = k)) := by
  unfold valV
  rw [Option.isSome_map]
  induction kvs with
  | nil => rfl
  | cons x r ih =>
    rw [List.find?_cons, List.any_cons]
    by_cases e : x.1 = k
    · rw [decide_eq_true e]; rfl
    · rw [decide_eq_false e, Bool.false_or]; exact ih
theorem wsGet_cons {y : Str × Int × Int} {ws : Ws} {z : Str} : wsGet (y :: ws) z = if y.1 = z then y.2 else wsGet ws z := by
  unfold wsGet
  rw [List.find?_cons]
  by_cases e : y.1 = z
  · rw [decide_eq_true e, if_pos e]; rfl
  · rw [decide_eq_false e, if_neg e]
theorem wsGet_mem {ws : Ws} {z : Str} (h : ws.any (fun w => decide (w.1 = z)) = true) : ∃ w ∈ ws, w.1 = z ∧ wsGet ws z = w.2 := by
  induction ws with
  | nil => cases h
  | cons y r ih =>
    rw [wsGet_cons]
    by_cases e : y.1 = z
    · exact ⟨y, List.mem_cons_self, e, by rw [if_pos e]⟩
    · rw [List.any_cons, decide_eq_false e, Bool.false_or] at h
      obtain ⟨w, hw, e1, e2⟩ := ih h
      exact ⟨w, List.mem_cons_of_mem _ hw, e1, by rw [if_neg e, e2]⟩
theorem any_key {ws : Ws} {z : Str} : ws.any (fun w => decide (w.1 = z)) = true ↔ z ∈ ws.map fun w => w.1 := by
  rw [List.any_eq_true, List.mem_map]
  exact ⟨fun ⟨w, h, e⟩ => ⟨w, h, of_decide_eq_true e⟩, fun ⟨w, h, e⟩ => ⟨w, h, decide_eq_true e⟩⟩
theorem any_keyF {ws : Ws} {z : Str} : ws.any (fun w => decide (w.1 = z)) = false ↔ z ∉ ws.map fun w => w.1 := by
  rw [← any_key]
  cases ws.any fun w => decide (w.1 = z) <;> simp
theorem putW_any {ws : Ws} {y z : Str} {u : Int × Int} (ne : y ≠ z) : (putW ws y u).any (fun w => decide (w.1 = z)) = ws.any (fun w => decide (w.1 = z)) := by
  apply Bool.eq_iff_iff.mpr
  rw [any_key, any_key, putW_keys]
  split
  · exact Iff.rfl
  · rw [List.mem_append, List.mem_singleton]
    exact ⟨fun h => h.elim id fun e => absurd e.symm ne, .inl⟩
theorem putW_get {ws : Ws} {y z : Str} {u : Int × Int} (ne : y ≠ z) : wsGet (putW ws y u) z = wsGet ws z := by
  unfold putW
  split
  · rename_i h
    clear h
    induction ws with
    | nil => rfl
    | cons w r ih =>
      rw [List.map_cons, wsGet_cons, wsGet_cons, ih]
      by_cases e : w.1 = y
      · rw [if_pos e, if_neg (show ¬ ((w.1, u) : Str × Int × Int).1 = z from fun q => ne (e.symm.trans q)), if_neg (fun q => ne (e.symm.trans q))]
      · rw [if_neg e]
  · rename_i h
    clear h
    induction ws with
    | nil => rw [List.nil_append, wsGet_cons, if_neg ne]
    | cons w r ih => rw [List.cons_append, wsGet_cons, wsGet_cons, ih]
theorem putW_getS {ws : Ws} {z : Str} {u : Int × Int} : wsGet (putW ws z u) z = u := by
  unfold putW
  split
  · rename_i h
    induction ws with
    | nil => cases h
    | cons w r ih =>
      rw [List.map_cons, wsGet_cons]
      by_cases e : w.1 = z
      · rw [if_pos e, if_pos e]
      · rw [if_neg e, if_neg e]
        rw [List.any_cons, decide_eq_false e, Bool.false_or] at h
        exact ih h
  · rename_i h
    have h := Bool.eq_false_iff.mpr h
    induction ws with
    | nil => rw [List.nil_append, wsGet_cons, if_pos rfl]
    | cons w r ih =>
      rw [List.any_cons, Bool.or_eq_false_iff] at h
      rw [List.cons_append, wsGet_cons, if_neg (of_decide_eq_false h.1)]
      first | exact ih (Bool.eq_false_iff.mp h.2) h.2 | exact ih (Bool.eq_false_iff.mp h.2)
theorem addW_far {z : Str} : ∀ {l ws : Ws}, (z ∉ l.map fun w => w.1) → (addW ws l).any (fun w => decide (w.1 = z)) = ws.any (fun w => decide (w.1 = z)) ∧ wsGet (addW ws l) z = wsGet ws z
  | [], ws, _ => ⟨rfl, rfl⟩
  | y :: r, ws, h => by
    rw [List.map_cons, List.mem_cons, not_or] at h
    have ih := addW_far (l := r) (ws := addOne ws y) h.2
    have n : y.1 ≠ z := fun q => h.1 q.symm
    show (addW (addOne ws y) r).any _ = _ ∧ wsGet (addW (addOne ws y) r) z = _
    rw [ih.1, ih.2]
    exact ⟨putW_any n, putW_get n⟩
theorem addW_snoc {ws ws2 : Ws} {i : Nat} {y : Str × Int × Int} (h : ws2[i]? = some y) : addW ws (ws2.take (i + 1)) = addOne (addW ws (ws2.take i)) y := by
  unfold addW
  rw [List.take_add_one, h, List.foldl_append]
  rfl
theorem addOne_keys {ws : Ws} {y : Str × Int × Int} : (addOne ws y).map (fun w => w.1) = if ws.any (fun w => decide (w.1 = y.1)) then ws.map (fun w => w.1) else ws.map (fun w => w.1) ++ [y.1] := putW_keys
theorem addW_keys : ∀ {l ws : Ws}, (ws.map fun w => w.1).Nodup → ((addW ws l).map fun w => w.1).Nodup ∧ (addW ws l).length ≤ ws.length + l.length ∧ ∀ z ∈ (addW ws l).map (fun w => w.1), z ∈ ws.map (fun w => w.1) ∨ z ∈ l.map fun w => w.1
  | [], ws, nd => ⟨nd, Nat.le_refl _, fun z h => .inl h⟩
  | y :: r, ws, nd => by
    have e := addOne_keys (ws := ws) (y := y)
    have nd1 : ((addOne ws y).map fun w => w.1).Nodup := by
      rw [e]
      split
      · exact nd
      · rename_i h
        rw [List.nodup_append]
        refine ⟨nd, by simp, fun a ha b hb q => ?_⟩
        rw [List.mem_singleton] at hb
        subst hb
        subst q
        exact h (any_key.mpr ha)
    have len1 : (addOne ws y).length ≤ ws.length + 1 := by
      have l := congrArg List.length e
      rw [List.length_map] at l
      rw [l]
      split
      · rw [List.length_map]; omega
      · rw [List.length_append, List.length_map]; exact Nat.le_refl _
    have ih := addW_keys (l := r) nd1
    refine ⟨ih.1, ?_, fun z hz => ?_⟩
    · have := ih.2.1
      show (addW (addOne ws y) r).length ≤ _
      rw [List.length_cons]
      omega
    · rcases ih.2.2 z hz with h | h
      · rw [e] at h
        split at h
        · exact .inl h
        · rw [List.mem_append, List.mem_singleton] at h
          rcases h with h | h
          · exact .inl h
          · exact .inr (by rw [h]; exact List.mem_cons_self)
      · exact .inr (List.mem_cons_of_mem _ h)
theorem canon_mem {ws : Ws} {w : Str × Int × Int} (h : w ∈ canon ws) : w ∈ ws ∧ w.2.1 ≠ 0 := by
  obtain ⟨h1, h2⟩ := List.mem_filter.mp h
  exact ⟨sortK_perm.mem_iff.mp h1, of_decide_eq_true h2⟩
theorem canon_nd {ws : Ws} (h : (ws.map fun w => w.1).Nodup) : ((canon ws).map fun w => w.1).Nodup := by
  have p : ((sortK (fun w => w.1) ws).map fun w => w.1).Nodup := (sortK_perm.map _).nodup_iff.mpr h
  exact p.sublist (List.Sublist.map _ List.filter_sublist)
theorem canon_len {ws : Ws} : (canon ws).length ≤ ws.length := Nat.le_trans (List.length_filter_le _ _) (Nat.le_of_eq sortK_perm.length_eq)
theorem WOk.canon {n : Nat} {ws : Ws} (h : WOk n ws) : WOk n (canon ws) := ⟨fun w hw => h.sym w (canon_mem hw).1, canon_nd h.nd, Nat.lt_of_le_of_lt canon_len h.few, fun w hw => h.num w (canon_mem hw).1⟩
theorem WOk.mono {n m : Nat} {ws : Ws} (h : WOk n ws) (hm : n ≤ m) : WOk m ws := ⟨h.sym, h.nd, h.few, fun w hw => ⟨(h.num w hw).1, (h.num w hw).2.1.mono hm, (h.num w hw).2.2.mono hm⟩⟩
theorem WOk.mul {n m k : Nat} {ws : Ws} {t b : Int} (h : WOk n ws) (ht : Sz m t) (hb : Sz m b) (b0 : b ≠ 0) (hk : n + m ≤ k) : WOk k (mulW ws t b) := by
  refine ⟨fun w hw => ?_, by rw [mulW_keys]; exact h.nd, by unfold mulW; rw [List.length_map]; exact h.few, fun w hw => ?_⟩
  · obtain ⟨y, hy, rfl⟩ := mulW_mem hw
    exact h.sym y hy
  · obtain ⟨y, hy, rfl⟩ := mulW_mem hw
    obtain ⟨y0, z1, z2⟩ := h.num y hy
    have n0 : y.2.2 * b ≠ 0 := Int.mul_ne_zero y0 b0
    have l := low_abs (t := y.2.1 * t) n0
    exact ⟨Int.ne_of_gt (low_pos n0), ((z1.mul ht).mono hk).le l.1, ((z2.mul hb).mono hk).le l.2⟩
theorem WOk.neg {n : Nat} {ws : Ws} (h : WOk n ws) : WOk n (mulW ws (-1) 1) := by
  refine ⟨fun w hw => ?_, by rw [mulW_keys]; exact h.nd, by unfold mulW; rw [List.length_map]; exact h.few, fun w hw => ?_⟩
  · obtain ⟨y, hy, rfl⟩ := mulW_mem hw
    exact h.sym y hy
  · obtain ⟨y, hy, rfl⟩ := mulW_mem hw
    obtain ⟨y0, z1, z2⟩ := h.num y hy
    have n0 : y.2.2 * 1 ≠ 0 := by omega
    have l := low_abs (t := y.2.1 * -1) n0
    exact ⟨Int.ne_of_gt (low_pos n0), z1.le (Nat.le_trans l.1 (by omega)), z2.le (Nat.le_trans l.2 (by omega))⟩
theorem low_ok {n : Nat} {t b : Int} (h : b ≠ 0) (h1 : Sz n t) (h2 : Sz n b) : (low t b).2 ≠ 0 ∧ Sz n (low t b).1 ∧ Sz n (low t b).2 :=
  ⟨Int.ne_of_gt (low_pos h), h1.le (low_abs h).1, h2.le (low_abs h).2⟩
def negW (ws : Ws) : Ws := canon (mulW ws (-1) 1)
def negA (c : Int × Int) : Int × Int := low (c.1 * -1) (c.2 * 1)
def sp_fsub (K : PySem.W.Frag) : Sp := fun vs H Q _ => ∃ a, ∃ c : Int × Int, ∃ ws v, ∃ c2 : Int × Int, ∃ ws2, vs = [.ref a, v] ∧ FrmAt K H a c ws ∧ WOk 800 ws ∧ (c.2 ≠ 0 ∧ Sz 800 c.1 ∧ Sz 800 c.2) ∧ FrmV K H v c2 ws2 ∧ WOk 800 ws2 ∧ (c2.2 ≠ 0 ∧ Sz 800 c2.1 ∧ Sz 800 c2.2) ∧ ws.length + ws2.length < 64 ∧
  ∀ p H', Same H H' → FrmAt K H' p (sumA c (negA c2)) (canon (addW ws (negW ws2))) → Q (.ref p) H'

section
variable {P : Program} {w : World} {K : PySem.W.Frag} {mg : Str → Option Value} {base : Heap}
theorem sc_form_of : FnScope ["value"] ["value"] (defScope s_form_of) := ⟨rfl, rfl, rfl, by decide +kernel, rfl, by decide +kernel, by decide +kernel⟩
theorem ok_form_of (T : Tx K mg) : FnG P w K mg base CX0 true 7 (He.ga K "form_of") T.fd_form_of ["value"] (sp_fof K) := by
  refine funG T.F_form_of sc_form_of (fun vs H Q E h => ?_) (fun cdv A outer s H vs Q E hr hg h => ?_)
  · obtain ⟨v, c, ws, e, _⟩ := h; rw [e]; rfl
  · obtain ⟨v, c, ws, rfl, hv, k⟩ := h
    refine ⟨_, (pss_cons (ps_if (pt_val (pe_callB call_isi (by rfl) T.m_isinstance (by decide +kernel) (pa_cons (pv 0) (pa_cons (pe_glob (v := .ref (He.ga K "Form")) (by rfl) T.g_Form rfl) pa_nil)))) (pss_one (ps_ret (pv 0))) pss_nil)
    (pss_cons (ps_if (pt_not (pt_val (pg_call (ok_is_amount T) (hr.mono (by decide)) hg (by rfl) T.g_is_amount T.F_is_amount.kp T.b_is_amount .nil pass0 (pa_cons (pv 0) pa_nil)))) (pss_one ps_never) pss_nil)
    (pss_one (ps_ret (pg_make T.k_Form (ok_FormU_initU T) (hr.mono (by decide)) hg (by rfl) T.g_Form T.b_FormU_initU_1.choose_spec.2 T.b_FormU_initU_1.choose_spec.1 pass0 (pa_cons (pv 0) pa_nil)))))), ?_⟩
    walk_at "st"
    repeat walk_at "rd"
    rcases hv with ⟨a, rfl, ha⟩ | ⟨hv, rfl⟩
    · obtain ⟨dx, ca, d, kvs, ea, _⟩ := id ha
      refine r_isi (b := true) (ty_own ea T.c_Form T.i_Form) (.own _) kit_self ?_
      repeat walk_at "rd"
      exact k a H (fun _ _ e => e) ha
    · have fin : ∀ Q : VK, (∀ a H', Same H H' → FrmAt K H' a c [] → Q (.ref a) H') → ∀ x dx, H x = none → H dx = none → dx ≠ x → sp_frm K [.ref x, v, .non] (upd (upd H dx (.own x)) x (.ins (He.ga K "Form") dx [])) (fun u H2 => u = .non ∧ Q (.ref x) H2) E :=
        fun Q q => use_mkC (R := fun a H' => Q (.ref a) H') rfl hv (.inl ⟨rfl, rfl⟩) List.nodup_nil fun a H' s _ hf => q a H' s (by rw [canon_nil] at hf; exact hf)
      have step : ∀ {Q : VK}, Q (.bl false) H → rIsi K [v, .ref (He.ga K "Form")] H Q := fun {Q} q => by
        rcases hv with ⟨a, rfl, dx, ea⟩ | ⟨rfl, _⟩
        · exact r_isi (b := false) (ty_own ea T.c_Amount T.i_Amount) (.own _) T.kt_Amount_Form q
        · exact r_isi (b := false) ty_int (.own _) T.kt_int_Form q
      refine step ?_
      repeat walk_at "rd"
      refine ⟨v, _, _, rfl, hv, ?_⟩
      repeat walk_at "rd"
      exact fin _ k
theorem sc_Form_linear_part : FnScope ["self"] ["self"] (defScope s_Form_linear_part) := ⟨rfl, rfl, rfl, by decide +kernel, rfl, by decide +kernel, by decide +kernel⟩
theorem ok_Form_linear_part (T : Tx K mg) : FnG P w K mg base CX0 true 7 (pget K "Form" "linear_part") T.fd_Form_linear_part ["self"] (sp_flin K) := by
  refine funG T.F_Form_linear_part sc_Form_linear_part (fun vs H Q E h => ?_) (fun cdv A outer s H vs Q E hr hg h => ?_)
  · obtain ⟨a, c, ws, e, _⟩ := h; rw [e]; rfl
  · obtain ⟨a, c, ws, rfl, ha, w, k⟩ := h
    refine ⟨_, (pss_one (ps_ret (pg_make T.k_Form (ok_FormU_initU T) (hr.mono (by decide)) hg (by rfl) T.g_Form T.b_FormU_initU .nil pass0 (pa_cons pe_int (pa_cons (pe_fld (pv 0) rfl) pa_nil))))), ?_⟩
    obtain ⟨dx, ca, d, kvs, ea, hc, hd, hw⟩ := id ha
    walk_at "st"
    repeat walk_at "rd"
    refine q_fld ea T.c_Form T.n_Form_weights (frmF_w ca d) ?_
    repeat walk_at "rd"
    exact use_mkC (c := (0, 1)) rfl (.inr ⟨rfl, rfl⟩) (win_of hd hw w.sym w.nd w.few) w.nd (fun p H' s _ hf => k p H' s hf)

theorem sc_FormU_mulU : FnScope ["self", "other", "factor", "weights", "symbol"] ["self", "other"] (defScope s_FormU_mulU) := ⟨rfl, rfl, rfl, by decide +kernel, rfl, by decide +kernel, by decide +kernel⟩
theorem ok_FormU_mulU (T : Tx K mg) : FnG P w K mg base CX0 true 7 (He.ma K (He.ga K "Form") "__mul__") T.fd_FormU_mulU ["self", "other"] (sp_fmul K) := by
  refine funG T.F_FormU_mulU sc_FormU_mulU (fun vs H Q E h => ?_) (fun cdv A outer s H vs Q E hr hg h => ?_)
  · obtain ⟨a, c, ws, v, t, b, e, _⟩ := h; rw [e]; rfl
  · obtain ⟨a, c, ws, v, t, b, rfl, ha, w, ⟨cb, ct1, cb1⟩, hv, ⟨b0, tz, bz⟩, k⟩ := h
    refine ⟨_, (pss_cons (ps_set (i := 2) sc_FormU_mulU.nd rfl (by first | exact Or.inl rfl | exact Or.inr rfl) (pg_call (ok_amount_of T) (hr.mono (by decide)) hg (by rfl) T.g_amount_of T.F_amount_of.kp T.b_amount_of .nil pass0 (pa_cons (pv 1) pa_nil)))
    (pss_cons (ps_lock (ps_setDc (i := 3) (own := [("symbol", 4)]) (by rfl) sc_FormU_mulU.nd rfl rfl (sw_dc rfl rfl rfl (by decide +kernel)) (pi_keys (pe_fld (pv 0) rfl)) (blkOk_by (own := [("symbol", 4)]) (N := ["self", "other", "factor", "weights", "symbol"]) (sc := defScope s_FormU_mulU) (by decide +kernel)) (fun _ _ _ _ _ => (pg_name (i := 4) sc_FormU_mulU.nd rfl (by first | exact Or.inl rfl | exact Or.inr rfl))) (fun _ _ _ _ _ => pts_nil) (fun _ _ _ _ _ => (pv 4)) (fun _ _ _ _ _ => (pe_op (op_own T.o_Amount_Mult (ok_AmountU_mulU T) (hr.mono (by decide)) hg T.b_AmountU_mulU pass0) (pe_dget (Nat.lt_of_le_of_lt (Nat.add_le_add_left (by decide : 1 ≤ 64) _) hr.units) (pe_fldK (K' := K) (pv 0) rfl) (pv 4) (fun _ _ => rfl)) (pv 2)))))
    (pss_one (ps_ret (pg_make T.k_Form (ok_FormU_initU T) (hr.mono (by decide)) hg (by rfl) T.g_Form T.b_FormU_initU .nil pass0 (pa_cons (pe_op (op_own T.o_Amount_Mult (ok_AmountU_mulU T) (hr.mono (by decide)) hg T.b_AmountU_mulU pass0) (pe_fld (pv 0) rfl) (pv 2)) (pa_cons (pv 3) pa_nil))))))), ?_⟩
    walk_at "st"
    repeat walk_at "rd"
    refine use_of hv (fun fa H1 s1 hfa => ?_)
    obtain ⟨dx, ca, d, kvs, ea, hc, hd, hw⟩ := id (ha.same s1)
    repeat walk_at "rd"
    refine r_lockS hd trivial (fun od H2 e2 ne2 => ?_)
    have nad : a ≠ d := fun z => by rw [z, hd] at ea; cases ea
    repeat walk_at "rd"
    refine q_fld (by rw [ne2 a nad]; exact ea) T.c_Form T.n_Form_weights (frmF_w ca d) ?_
    have nA := nodup_keys hw.keysI w.nd
    refine ⟨d, od, rfl, .inl ⟨kvs, e2, u_dcK (fun D H3 hD sD eD nD => ?_)⟩⟩
    have nDd : D ≠ d := by
      rintro rfl
      rw [e2] at hD
      cases hD
    have hlen := hw.length
    refine ⟨fun i H' => ∃ akvs, H' D = some (.dK akvs) ∧ WsAt K H' akvs (mulW (ws.take i) t b) ∧ H' d = some (.frz od (.dK kvs)) ∧ ∀ b, b ≠ d → ∀ o, H1 b = some o → H' b = some o, ⟨[], eD, .nil, sD _ _ e2, fun b hb o eb => sD b o (by rw [ne2 b hb]; exact eb)⟩, fun i H' _ z => by obtain ⟨_, _, _, f, _⟩ := z; exact f, ?_, ?_⟩
    · rintro i key v' H4 hi ⟨akvs, e4, w4, f4, k4⟩
      obtain ⟨y, p, ey, rfl, rfl, hp⟩ := hw.get2 i key v' hi
      have hi2 : i < ws.length := (List.getElem?_eq_some_iff.mp ey).1
      obtain ⟨y0, yz1, yz2⟩ := w.num y (List.mem_of_getElem? ey)
      have kA : ∀ {a t b}, AmtAt K H1 a t b → AmtAt K H4 a t b := fun {a t b} h => by
        obtain ⟨dy, e⟩ := h
        exact ⟨dy, k4 a (fun z => by rw [z, hd] at e; cases e) _ e⟩
      dsimp only [L2.kV]
      repeat walk_at "rd"
      refine ⟨rfl, ?_⟩
      refine r_tY ?_
      rw [if_pos rfl]
      repeat walk_at "rd"
      refine q_fld (k4 a nad _ ea) T.c_Form T.n_Form_weights (frmF_w ca d) ?_
      repeat walk_at "rd"
      refine ⟨d, .ref p, rfl, .inl ⟨kvs, .inr y.1, .inr ⟨od, f4⟩, rfl, (valV_at nA hi).symm⟩, ?_⟩
      repeat walk_at "rd"
      refine r_opOwn (kA hp).ins (.inl ⟨fa, rfl, (kA hfa).ins⟩) ⟨p, .ref fa, y.2.1, y.2.2, t, b, rfl, kA hp, .inl ⟨fa, rfl, kA hfa⟩, ⟨yz1, yz2, tz, bz⟩, y0, b0, trivial, fun na H5 s5 hna => ?_⟩
      have e5 := s5 _ _ e4
      have la := w4.length
      unfold mulW at la
      rw [List.length_map, List.length_take] at la
      refine g_growD (k := .inr y.1) e5 (by have := w.few; omega) (fun kv hkv e => ?_) (fun H6 e6 ne6 => ⟨_, e6, ?_, by rw [ne6 d nDd.symm]; exact s5 _ _ f4, fun b hb o eb => ?_⟩)
      · have m1 : kv.1 ∈ akvs.map fun x => x.1 := List.mem_map.mpr ⟨kv, hkv, rfl⟩
        rw [w4.keysI, mulW_keys, e] at m1
        obtain ⟨z, hz, ez⟩ := List.mem_map.mp m1
        exact take_new w.nd ey (Sum.inr.inj ez ▸ hz)
      · rw [mulW_snoc ey]
        exact ((w4.same s5).mono fun a t b h => h.offK e5 ne6).snoc (hna.offK e5 ne6)
      · rw [ne6 b (fun z => by rw [z] at eb hb; rw [ne2 D hb] at hD; rw [hD] at eb; cases eb)]
        exact s5 _ _ (k4 b hb o eb)
    · rintro H4 ⟨akvs, e4, w4, f4, k4⟩
      have tk : ws.take kvs.length = ws := by rw [hlen, List.take_length]
      rw [tk] at w4
      repeat walk_at "rd"
      refine ⟨f4, ?_⟩
      have s5 : Same H1 (upd H4 d (.dK kvs)) := same_back hd k4
      have e5 : upd H4 d (.dK kvs) D = some (.dK akvs) := by rw [upd_ne nDd]; exact e4
      have w5 : WsAt K (upd H4 d (.dK kvs)) akvs (mulW ws t b) := w4.mono fun a t b h => by
        obtain ⟨dy, e⟩ := h
        exact ⟨dy, by rw [upd_ne (fun z => by rw [z, f4] at e; cases e)]; exact e⟩
      generalize upd H4 d (.dK kvs) = H5 at *
      repeat walk_at "rd"
      refine q_fld (s5 _ _ ea) T.c_Form T.n_Form_constant (frmF_c ca d) ?_
      repeat walk_at "rd"
      refine r_opOwn (hc.same s5).ins (.inl ⟨fa, rfl, (hfa.same s5).ins⟩) ⟨ca, .ref fa, c.1, c.2, t, b, rfl, hc.same s5, .inl ⟨fa, rfl, hfa.same s5⟩, ⟨ct1, cb1, tz, bz⟩, cb, b0, trivial, fun na H6 s6 hna => ?_⟩
      repeat walk_at "rd"
      refine use_mkC (c := low (c.1 * t) (c.2 * b)) rfl (.inl ⟨na, rfl, hna⟩) (win_of (s6 _ _ e5) (w5.same s6) (fun z hz => ?_) (by rw [mulW_keys]; exact w.nd) (by unfold mulW; rw [List.length_map]; exact w.few)) (by rw [mulW_keys]; exact w.nd) (fun p H' s _ hf => k p H' (((s1.trans s5).trans s6).trans s) hf)
      obtain ⟨y, hy, rfl⟩ := mulW_mem hz
      exact w.sym y hy

theorem sc_FormU_negU : FnScope ["self"] ["self"] (defScope s_FormU_negU) := ⟨rfl, rfl, rfl, by decide +kernel, rfl, by decide +kernel, by decide +kernel⟩
theorem ok_FormU_negU (T : Tx K mg) : FnG P w K mg base CX0 true 8 (He.ma K (He.ga K "Form") "__neg__") T.fd_FormU_negU ["self"] (sp_fneg K) := by
  refine funG T.F_FormU_negU sc_FormU_negU (fun vs H Q E h => ?_) (fun cdv A outer s H vs Q E hr hg h => ?_)
  · obtain ⟨a, c, ws, e, _⟩ := h; rw [e]; rfl
  · obtain ⟨a, c, ws, rfl, ha, w, hc, k⟩ := h
    refine ⟨_, (pss_one (ps_ret (pe_op (op_own T.o_Form_Mult (ok_FormU_mulU T) (hr.mono (by decide)) hg T.b_FormU_mulU pass0) (pv 0) (pe_un un_neg pe_int)))), ?_⟩
    walk_at "st"
    repeat walk_at "rd"
    exact r_opOwn ha.ins (.inr ⟨"int", rfl, by simp⟩) ⟨a, c, ws, .int (-1), -1, 1, rfl, ha, w, hc, .inr ⟨rfl, rfl⟩, ⟨by decide, by unfold Sz; decide +kernel, by unfold Sz; decide +kernel⟩, k⟩
theorem sc_Form_over : FnScope ["self", "divisor"] ["self", "divisor"] (defScope s_Form_over) := ⟨rfl, rfl, rfl, by decide +kernel, rfl, by decide +kernel, by decide +kernel⟩
theorem ok_Form_over (T : Tx K mg) : FnG P w K mg base CX0 true 8 (He.ma K (He.ga K "Form") "over") T.fd_Form_over ["self", "divisor"] (sp_fover K) := by
  refine funG T.F_Form_over sc_Form_over (fun vs H Q E h => ?_) (fun cdv A outer s H vs Q E hr hg h => ?_)
  · obtain ⟨a, c, ws, v, t, b, e, _⟩ := h; rw [e]; rfl
  · obtain ⟨a, c, ws, v, t, b, rfl, ha, w, hc, hv, ⟨b0, t0, tz, bz⟩, k⟩ := h
    refine ⟨_, (pss_one (ps_ret (pe_op (op_two T.t_Form_Amount_Mult (ok_FormU_mulU T) (hr.mono (by decide)) hg T.b_FormU_mulU pass0) (pv 0) (pg_meth (pg_make T.k_Amount (ok_AmountU_initU T) (hr.mono (by decide)) hg (by rfl) T.g_Amount T.b_AmountU_initU_1.choose_spec.2 T.b_AmountU_initU_1.choose_spec.1 pass0 (pa_cons pe_int pa_nil)) T.c_Amount T.mt_Amount_over (ok_Amount_over T) (hr.mono (by decide)) hg T.b_Amount_over .nil pass0 (pa_cons (pv 1) pa_nil))))), ?_⟩
    walk_at "st"
    repeat walk_at "rd"
    refine use_make rfl (by decide) (by unfold Sz; decide +kernel) (fun n H1 s1 _ hn => ?_)
    rw [low_one] at hn
    refine q_methA hn (by decide +kernel) (by decide +kernel) ?_
    repeat walk_at "rd"
    have z1 : Sz 1800 1 := by unfold Sz; decide +kernel
    refine ⟨n, v, 1, 1, t, b, rfl, hn, hv.same s1, ⟨z1, z1, tz.mono (by decide), bz.mono (by decide)⟩, by decide, b0, t0, fun p H2 s2 hp => ?_⟩
    have t1 : 1 * t ≠ 0 := by omega
    have l := low_abs (t := 1 * b) t1
    have hp0 := low_pos (t := 1 * b) t1
    have f1 := ha.same (s1.trans s2)
    have hp : AmtAt K H2 p (low (1 * b) (1 * t)).1 (low (1 * b) (1 * t)).2 := hp
    have zb : Sz 1800 (low (1 * b) (1 * t)).1 := (bz.mono (by decide)).le (Nat.le_trans l.1 (by rw [Int.one_mul]; exact Nat.le_refl _))
    have zt : Sz 1800 (low (1 * b) (1 * t)).2 := (tz.mono (by decide)).le (Nat.le_trans l.2 (by rw [Int.one_mul]; exact Nat.le_refl _))
    have np : (low (1 * b) (1 * t)).2 ≠ 0 := by omega
    exact ⟨a, p, rfl, rfl, f1.ins, hp.ins, a, c, ws, .ref p, _, _, rfl, f1, w, hc, .inl ⟨p, rfl, hp⟩, ⟨np, zb, zt⟩, fun q H3 s3 hq => k q H3 ((s1.trans s2).trans s3) hq⟩

end
section
variable {P : Program} {w : World} {K : PySem.W.Frag} {mg : Str → Option Value} {base : Heap}
theorem sc_FormU_addU : FnScope ["self", "other", "weights", "symbol", "weight"] ["self", "other"] (defScope s_FormU_addU) := ⟨rfl, rfl, rfl, by decide +kernel, rfl, by decide +kernel, by decide +kernel⟩
theorem ok_FormU_addU (T : Tx K mg) : FnG P w K mg base CX0 true 8 (He.ma K (He.ga K "Form") "__add__") T.fd_FormU_addU ["self", "other"] (sp_fadd K) := by
  refine funG T.F_FormU_addU sc_FormU_addU (fun vs H Q E h => ?_) (fun cdv A outer s H vs Q E hr hg h => ?_)
  · obtain ⟨a, c, ws, v, c2, ws2, e, _⟩ := h; rw [e]; rfl
  · obtain ⟨a, c, ws, v, c2, ws2, rfl, ha, w, ⟨cb, cz1, cz2⟩, hv, w2, ⟨cb2, cz3, cz4⟩, few, k⟩ := h
    refine ⟨_, (pss_cons (ps_set (i := 1) sc_FormU_addU.nd rfl (by first | exact Or.inl rfl | exact Or.inr rfl) (pg_call (ok_form_of T) (hr.mono (by decide)) hg (by rfl) T.g_form_of T.F_form_of.kp T.b_form_of .nil pass0 (pa_cons (pv 1) pa_nil)))
    (pss_cons (ps_set (i := 2) sc_FormU_addU.nd rfl (by first | exact Or.inl rfl | exact Or.inr rfl) (pe_callTy call_dictD (by rfl) T.m_dict (by decide +kernel) (pa_cons (pe_fld (pv 0) rfl) pa_nil)))
    (pss_cons (ps_lock (ps_for PassesOwn.never (by rfl) (pi_items (pe_fld (pv 1) rfl)) (pg_tupK (K' := K) (n := 2) (by rfl) (pgs_cons (pg_name (i := 3) sc_FormU_addU.nd rfl (by first | exact Or.inl rfl | exact Or.inr rfl)) (pgs_cons (pg_name (i := 4) sc_FormU_addU.nd rfl (by first | exact Or.inl rfl | exact Or.inr rfl)) pgs_nil))) (pss_one (ps_dput (Nat.lt_of_le_of_lt (Nat.add_le_add_left (by decide : 1 ≤ 64) _) hr.units) (pv 2) (pv 3) (pe_ifExp (pt_cmp (pc_din (Nat.lt_of_le_of_lt (Nat.add_le_add_left (by decide : 1 ≤ 64) _) hr.units) (pv 3) (pv 2))) (pe_op (op_own T.o_Amount_Add (ok_AmountU_addU T) (hr.mono (by decide)) hg T.b_AmountU_addU pass0) (pe_dget (Nat.lt_of_le_of_lt (Nat.add_le_add_left (by decide : 1 ≤ 64) _) hr.units) (pv 2) (pv 3) (fun _ _ => rfl)) (pv 4)) (pv 4)) (by rfl)))))
    (pss_one (ps_ret (pg_make T.k_Form (ok_FormU_initU T) (hr.mono (by decide)) hg (by rfl) T.g_Form T.b_FormU_initU .nil pass0 (pa_cons (pe_op (op_own T.o_Amount_Add (ok_AmountU_addU T) (hr.mono (by decide)) hg T.b_AmountU_addU pass0) (pe_fld (pv 0) rfl) (pe_fld (pv 1) rfl)) (pa_cons (pv 2) pa_nil)))))))), ?_⟩
    walk_at "st"
    repeat walk_at "rd"
    refine ⟨v, c2, ws2, rfl, hv, fun oa H1 s1 hoa => ?_⟩
    obtain ⟨dx, ca, d, kvs, ea, hc, hd, hw⟩ := id (ha.same s1)
    obtain ⟨dx2, ca2, d2, kvs2, ea2, hc2, hd2, hw2⟩ := id hoa
    repeat walk_at "rd"
    refine q_fld ea T.c_Form T.n_Form_weights (frmF_w ca d) ?_
    repeat walk_at "rd"
    refine ⟨d, kvs, rfl, .inl hd, fun D hD => ?_⟩
    generalize e2 : upd H1 D (.dK kvs) = H2
    have s2 : Same H1 H2 := fun b o eb => by rw [← e2, upd_ne (ne_of_none eb hD)]; exact eb
    have eD : H2 D = some (.dK kvs) := by rw [← e2, upd_same]
    clear e2
    repeat walk_at "rd"
    refine r_lockS (s2 _ _ hd2) trivial (fun od H3 e3 ne3 => ?_)
    have nDd : D ≠ d2 := (ne_of_none hd2 hD).symm
    have nad : oa ≠ d2 := fun z => by rw [z, hd2] at ea2; cases ea2
    repeat walk_at "rd"
    refine q_fld (by rw [ne3 oa nad]; exact s2 _ _ ea2) T.c_Form T.n_Form_weights (frmF_w ca2 d2) ?_
    have len2 := hw2.length
    have kf : ∀ i, (addW ws (ws2.take i)).length < 64 := fun i => by
      have h := (addW_keys (l := ws2.take i) w.nd).2.1
      have h2 : (ws2.take i).length ≤ ws2.length := by rw [List.length_take]; omega
      omega
    refine ⟨d2, od, kvs2, rfl, e3, u_items (fun i σ H' => ∃ akvs x3 x4, σ = [some (V.ref a), some (V.ref oa), some (V.ref D), x3, x4] ∧ H' D = some (.dK akvs) ∧ WsAt K H' akvs (addW ws (ws2.take i)) ∧ H' d2 = some (.frz od (.dK kvs2)) ∧ ∀ b, b ≠ d2 → ∀ o, H1 b = some o → H' b = some o)
      ⟨kvs, _, _, rfl, by rw [ne3 D nDd]; exact eD, (hw.mono fun a t b h => by
        obtain ⟨dy, e⟩ := h
        exact ⟨dy, by rw [ne3 a (fun z => by rw [z, hd2] at e; cases e)]; exact s2 _ _ e⟩), e3, fun b hb o eb => by rw [ne3 b hb]; exact s2 _ _ eb⟩ (fun i σ H' _ z => by obtain ⟨_, _, _, _, _, _, f, _⟩ := z; exact f) ?_ ?_⟩
    · rintro i key v' σ T4 H4 H5 hi ⟨akvs, x3, x4, rfl, e4, w4, f4, k4⟩ hT s5 e5 ne5
      obtain ⟨y, p, ey, rfl, rfl, hp⟩ := hw2.get2 i key v' hi
      have hi2 : i < ws2.length := (List.getElem?_eq_some_iff.mp ey).1
      have kA : ∀ {a t b}, AmtAt K H1 a t b → AmtAt K H5 a t b := fun {a t b} h => by
        obtain ⟨dy, e⟩ := h
        exact ⟨dy, s5 _ _ (k4 a (fun z => by rw [z, hd2] at e; cases e) _ e)⟩
      have nT2 : T4 ≠ D := (ne_of_none e4 hT).symm
      have e5D := s5 _ _ e4
      have w5 := w4.same s5
      have lenA := w5.length
      have few' := kf i
      have put : ∀ (q : Addr) (u : Int × Int) (H6 : Hp), Same H5 H6 → AmtAt K H6 q u.1 u.2 → addOne (addW ws (ws2.take i)) y = putW (addW ws (ws2.take i)) y.1 u →
          ∃ bkvs x3 x4, [some (V.ref a), some (V.ref oa), some (V.ref D), some (V.str y.1), some (V.ref p)] = [some (V.ref a), some (V.ref oa), some (V.ref D), x3, x4] ∧ (upd H6 D (.dK (putK akvs (.inr y.1) (.ref q)))) D = some (.dK bkvs) ∧ WsAt K (upd H6 D (.dK (putK akvs (.inr y.1) (.ref q)))) bkvs (addW ws (ws2.take (i + 1))) ∧
            (upd H6 D (.dK (putK akvs (.inr y.1) (.ref q)))) d2 = some (.frz od (.dK kvs2)) ∧ ∀ b, b ≠ d2 → ∀ o, H1 b = some o → (upd H6 D (.dK (putK akvs (.inr y.1) (.ref q)))) b = some o := fun q u H6 s6 hq eq => by
        refine ⟨_, _, _, rfl, upd_same, ?_, by rw [upd_ne nDd.symm]; exact s6 _ _ (s5 _ _ f4), fun b hb o eb => ?_⟩
        · rw [addW_snoc ey, eq]
          exact ((w5.same s6).put hq).mono fun a t b h => h.offK (s6 _ _ e5D) fun b hb => upd_ne hb
        · rw [upd_ne (ne_of_none eb hD)]
          exact s6 _ _ (s5 _ _ (k4 b hb o eb))
      refine r_gtup (.inl (.inl e5)) (by rfl) ?_
      dsimp only [L2.kV]
      repeat walk_at "rd"
      refine r_dput ?_
      repeat walk_at "rd"
      refine r_din ?_
      repeat walk_at "rd"
      refine ⟨D, _, rfl, .inl ⟨akvs, .inr y.1, .inl e5D, rfl, rfl⟩, ?_⟩
      have va := w5.any (z := y.1)
      have vb := val_any (kvs := akvs) (k := .inr y.1)
      have hb : akvs.length < sizeLine := by rw [lnL]; omega
      rcases w5.get (z := y.1) with ⟨e1, e2⟩ | ⟨q, e1, hq⟩
      · rw [e1] at vb
        have an : (addW ws (ws2.take i)).any (fun w => decide (w.1 = y.1)) = false := va.symm.trans vb.symm
        refine ⟨false, by rw [e1]; rfl, ?_⟩
        rw [if_neg Bool.false_ne_true]
        repeat walk_at "rd"
        exact ⟨D, _, rfl, .inl ⟨akvs, .inr y.1, e5D, rfl, hb, rfl⟩, put p y.2 H5 (fun _ _ e => e) (kA hp) (by unfold addOne; rw [an, if_neg Bool.false_ne_true])⟩
      · rw [e1] at vb
        have an : (addW ws (ws2.take i)).any (fun w => decide (w.1 = y.1)) = true := va.symm.trans vb.symm
        have far := addW_far (l := ws2.take i) (ws := ws) (take_new w2.nd ey)
        obtain ⟨x, hx, _, ex⟩ := wsGet_mem (far.1.symm.trans an)
        have gx : wsGet (addW ws (ws2.take i)) y.1 = x.2 := far.2.trans ex
        obtain ⟨x0, xz1, xz2⟩ := w.num x hx
        obtain ⟨y0, yz1, yz2⟩ := w2.num y (List.mem_of_getElem? ey)
        rw [gx] at hq
        refine ⟨true, by rw [e1]; rfl, ?_⟩
        rw [if_pos rfl]
        repeat walk_at "rd"
        refine ⟨D, .ref q, rfl, .inl ⟨akvs, .inr y.1, .inl e5D, rfl, e1.symm⟩, ?_⟩
        repeat walk_at "rd"
        refine r_opOwn hq.ins (.inl ⟨p, rfl, (kA hp).ins⟩) ⟨q, .ref p, _, _, y.2.1, y.2.2, rfl, hq, .inl ⟨p, rfl, kA hp⟩, ⟨xz1.mono (by decide), xz2.mono (by decide), yz1.mono (by decide), yz2.mono (by decide)⟩, x0, y0, trivial, fun na H6 s6 hna => ?_⟩
        repeat walk_at "rd"
        exact ⟨D, _, rfl, .inl ⟨akvs, .inr y.1, s6 _ _ e5D, rfl, hb, rfl⟩, put na (sumA x.2 y.2) H6 s6 hna (by unfold addOne; rw [an, if_pos rfl, gx])⟩
    · rintro σ H4 ⟨akvs, x3, x4, rfl, e4, w4, f4, k4⟩
      refine ⟨f4, ?_⟩
      have s5 : Same H1 (upd H4 d2 (.dK kvs2)) := same_back hd2 k4
      have e5 : upd H4 d2 (.dK kvs2) D = some (.dK akvs) := by rw [upd_ne nDd]; exact e4
      rw [show ws2.take kvs2.length = ws2 from by rw [len2, List.take_length]] at w4
      have w5 : WsAt K (upd H4 d2 (.dK kvs2)) akvs (addW ws ws2) := w4.mono fun a t b h => by
        obtain ⟨dy, e⟩ := h
        exact ⟨dy, by rw [upd_ne (fun z => by rw [z, f4] at e; cases e)]; exact e⟩
      generalize upd H4 d2 (.dK kvs2) = H5 at *
      repeat walk_at "rd"
      refine q_fld (s5 _ _ ea) T.c_Form T.n_Form_constant (frmF_c ca d) ?_
      repeat walk_at "rd"
      refine q_fld (s5 _ _ ea2) T.c_Form T.n_Form_constant (frmF_c ca2 d2) ?_
      repeat walk_at "rd"
      refine r_opOwn (hc.same s5).ins (.inl ⟨ca2, rfl, (hc2.same s5).ins⟩) ⟨ca, .ref ca2, c.1, c.2, c2.1, c2.2, rfl, hc.same s5, .inl ⟨ca2, rfl, hc2.same s5⟩, ⟨cz1.mono (by decide), cz2.mono (by decide), cz3.mono (by decide), cz4.mono (by decide)⟩, cb, cb2, trivial, fun na H6 s6 hna => ?_⟩
      repeat walk_at "rd"
      have ak := addW_keys (l := ws2) w.nd
      refine use_mkC (c := sumA c c2) rfl (.inl ⟨na, rfl, hna⟩) (win_of (s6 _ _ e5) (w5.same s6) (fun z hz => ?_) ak.1 (by have := ak.2.1; omega)) ak.1 (fun p H' s _ hf => k p H' (((s1.trans s5).trans s6).trans s) hf)
      rcases ak.2.2 z.1 (List.mem_map.mpr ⟨z, hz, rfl⟩) with h | h
      · obtain ⟨y, hy, e⟩ := List.mem_map.mp h
        exact e ▸ w.sym y hy
      · obtain ⟨y, hy, e⟩ := List.mem_map.mp h
        exact e ▸ w2.sym y hy

theorem sc_FormU_subU : FnScope ["self", "other"] ["self", "other"] (defScope s_FormU_subU) := ⟨rfl, rfl, rfl, by decide +kernel, rfl, by decide +kernel, by decide +kernel⟩
theorem ok_FormU_subU (T : Tx K mg) : FnG P w K mg base CX0 true 9 (He.ma K (He.ga K "Form") "__sub__") T.fd_FormU_subU ["self", "other"] (sp_fsub K) := by
  refine funG T.F_FormU_subU sc_FormU_subU (fun vs H Q E h => ?_) (fun cdv A outer s H vs Q E hr hg h => ?_)
  · obtain ⟨a, c, ws, v, c2, ws2, e, _⟩ := h; rw [e]; rfl
  · obtain ⟨a, c, ws, v, c2, ws2, rfl, ha, w, hc, hv, w2, hc2, few, k⟩ := h
    refine ⟨_, (pss_one (ps_ret (pe_op (op_own T.o_Form_Add (ok_FormU_addU T) (hr.mono (by decide)) hg T.b_FormU_addU pass0) (pv 0) (pe_un (un_own T.o_Form_neg (ok_FormU_negU T) (hr.mono (by decide)) hg T.b_FormU_negU pass0) (pg_call (ok_form_of T) (hr.mono (by decide)) hg (by rfl) T.g_form_of T.F_form_of.kp T.b_form_of .nil pass0 (pa_cons (pv 1) pa_nil)))))), ?_⟩
    walk_at "st"
    repeat walk_at "rd"
    refine ⟨v, c2, ws2, rfl, hv, fun oa H1 s1 hoa => ?_⟩
    repeat walk_at "rd"
    refine ⟨oa, rfl, hoa.ins, oa, c2, ws2, rfl, hoa, w2.mono (by decide), ⟨hc2.1, hc2.2.1.mono (by decide), hc2.2.2.mono (by decide)⟩, fun na H2 s2 hna => ?_⟩
    have f := ha.same (s1.trans s2)
    have nc : (negA c2).2 ≠ 0 ∧ Sz 800 (negA c2).1 ∧ Sz 800 (negA c2).2 := low_ok (by have := hc2.1; omega) (hc2.2.1.le (by omega)) (hc2.2.2.le (by omega))
    have nl : (negW ws2).length ≤ ws2.length := Nat.le_trans canon_len (by unfold mulW; rw [List.length_map]; exact Nat.le_refl _)
    repeat walk_at "rd"
    exact r_opOwn f.ins (.inl ⟨na, rfl, hna.ins⟩) ⟨a, c, ws, .ref na, negA c2, negW ws2, rfl, f, w, hc, .inl ⟨na, rfl, hna⟩, w2.neg.canon, nc, by omega, fun p H' s hp => k p H' ((s1.trans s2).trans s) hp⟩

end
section
variable {P : Program} {w : World} {K : PySem.W.Frag} {mg : Str → Option Value} {base : Heap}
def eqW (ws ws2 : Ws) : Bool := ws.length == ws2.length && ws.all fun w => ws2.any (fun y => decide (y.1 = w.1)) && decide (w.2 = wsGet ws2 w.1)
def NotF (K : PySem.W.Frag) (H : Hp) (y : V) : Prop := (∃ i, y = .int i) ∨ (∃ z, y = .str z) ∨ ∃ p t b, y = .ref p ∧ AmtAt K H p t b
def sp_feq (K : PySem.W.Frag) : Sp := fun vs H Q _ => ∃ a, ∃ c : Int × Int, ∃ ws y, vs = [.ref a, y] ∧ FrmAt K H a c ws ∧ (ws.map fun w => w.1).Nodup ∧
  ((∃ a2, ∃ c2 : Int × Int, ∃ ws2, y = .ref a2 ∧ FrmAt K H a2 c2 ws2 ∧ Q (.bl (decide (c.1 = c2.1 ∧ c.2 = c2.2) && eqW ws ws2)) H) ∨ (NotF K H y ∧ Q (.bl false) H))
theorem wsGet_of {ws : Ws} (nd : (ws.map fun w => w.1).Nodup) {w : Str × Int × Int} (h : w ∈ ws) : wsGet ws w.1 = w.2 := by
  obtain ⟨x, hx, e1, e2⟩ := wsGet_mem (any_key.mpr (List.mem_map.mpr ⟨w, h, rfl⟩))
  rw [e2, inj_of_nodup nd hx h e1]
theorem WsAt.mem {K : PySem.W.Frag} {H : Hp} {kvs : List (Key × V)} {ws : Ws} (h : WsAt K H kvs ws) {k : Key} {v : V} (m : (k, v) ∈ kvs) : ∃ w ∈ ws, ∃ a, k = .inr w.1 ∧ v = .ref a ∧ AmtAt K H a w.2.1 w.2.2 := by
  obtain ⟨i, hi⟩ := List.mem_iff_getElem?.mp m
  obtain ⟨w, a, e, r⟩ := h.get2 i k v hi
  exact ⟨w, List.mem_of_getElem? e, a, r⟩
theorem eqK_is {K : PySem.W.Frag} {H : Hp} {ka kb : List (Key × V)} {ws ws2 : Ws} (ha : WsAt K H ka ws) (hb : WsAt K H kb ws2) (nd : (ws.map fun w => w.1).Nodup) : eqK ka kb (fun k => match k with | .inr z => decide (wsGet ws z = wsGet ws2 z) | .inl _ => false) = eqW ws ws2 := by
  unfold eqK eqW
  rw [ha.length, hb.length]
  congr 1
  have go : ∀ {ka : List (Key × V)} {wt : Ws}, WsAt K H ka wt → (∀ w ∈ wt, wsGet ws w.1 = w.2) →
      (ka.all fun kv => (valV kb kv.1).isSome && (match kv.1 with | .inr z => decide (wsGet ws z = wsGet ws2 z) | .inl _ => false)) = wt.all fun w => ws2.any (fun y => decide (y.1 = w.1)) && decide (w.2 = wsGet ws2 w.1) := by
    intro ka wt h
    induction h with
    | nil => intro _; rfl
    | @cons z a t b kvs wt hp _ ih =>
      intro hw
      rw [List.all_cons, List.all_cons, ih (fun w m => hw w (List.mem_cons_of_mem _ m)), val_any, hb.any]
      have e := hw (z, t, b) List.mem_cons_self
      show ((ws2.any _ && decide (wsGet ws z = wsGet ws2 z)) && _) = _
      rw [show wsGet ws z = (t, b) from e]
  exact go ha fun w m => wsGet_of nd m
theorem sc_FormU_eqU : FnScope ["self", "other"] ["self", "other"] (defScope s_FormU_eqU) := ⟨rfl, rfl, rfl, by decide +kernel, rfl, by decide +kernel, by decide +kernel⟩
theorem ok_FormU_eqU (T : Tx K mg) : FnG P w K mg base CX0 true 4 (He.ma K (He.ga K "Form") "__eq__") T.fd_FormU_eqU ["self", "other"] (sp_feq K) := by
  refine funG T.F_FormU_eqU sc_FormU_eqU (fun vs H Q E h => ?_) (fun cdv A outer s H vs Q E hr hg h => ?_)
  · obtain ⟨a, c, ws, y, e, _⟩ := h; rw [e]; rfl
  · obtain ⟨a, c, ws, y, rfl, ha, nd, h⟩ := h
    refine ⟨_, (pss_one (ps_ret (pe_and (pe_callB call_isi (by rfl) T.m_isinstance (by decide +kernel) (pa_cons (pv 1) (pa_cons (pe_glob (v := .ref (He.ga K "Form")) (by rfl) T.g_Form rfl) pa_nil))) (pe_and (pe_cmpR (op_eqOwn T.o_Amount_eq (ok_AmountU_eqU T) (hr.mono (by decide)) hg T.b_AmountU_eqU pass0) (pe_fld (pv 0) rfl) (pe_fld (pv 1) rfl) (nomark _)) (pe_one (pe_cmpR (op_eqDO T.o_Amount_eq (ok_AmountU_eqU T) (hr.mono (by decide)) hg T.b_AmountU_eqU pass0) (pe_fld (pv 0) rfl) (pe_fld (pv 1) rfl) (nomark _))))))), ?_⟩
    obtain ⟨dx, ca, d, kvs, ea, hc, hd, hw⟩ := id ha
    walk_at "st"
    repeat walk_at "rd"
    rcases h with ⟨a2, c2, ws2, rfl, ha2, k⟩ | ⟨hy, k⟩
    · obtain ⟨dx2, ca2, d2, kvs2, ea2, hc2, hd2, hw2⟩ := id ha2
      refine r_isi (b := true) (ty_own ea2 T.c_Form T.i_Form) (.own _) kit_self ?_
      repeat walk_at "rd"
      refine q_fld ea T.c_Form T.n_Form_constant (frmF_c ca d) ?_
      repeat walk_at "rd"
      refine q_fld ea2 T.c_Form T.n_Form_constant (frmF_c ca2 d2) ?_
      refine r_opOwn hc.ins (.inl ⟨ca2, rfl, hc2.ins⟩) ⟨ca, c.1, c.2, .inl ⟨ca2, c2.1, c2.2, rfl, hc2, hc, ?_⟩⟩
      repeat walk_at "rd"
      by_cases e : c.1 = c2.1 ∧ c.2 = c2.2
      · rw [decide_eq_true e, Bool.true_and] at k
        rw [decide_eq_true e]
        repeat walk_at "rd"
        refine q_fld ea T.c_Form T.n_Form_weights (frmF_w ca d) ?_
        repeat walk_at "rd"
        refine q_fld ea2 T.c_Form T.n_Form_weights (frmF_w ca2 d2) ?_
        repeat walk_at "rd"
        refine ⟨d, d2, kvs, kvs2, (fun k => match k with | .inr z => decide (wsGet ws z = wsGet ws2 z) | .inl _ => false), rfl, rfl, hd, hd2, fun H1 key v u off m hu => ?_, ?_⟩
        · obtain ⟨w, mw, p, rfl, rfl, hp⟩ := hw.mem m
          rcases hw2.get (z := w.1) with ⟨e1, _⟩ | ⟨q, e1, hq⟩
          · rw [hu] at e1; cases e1
          · rw [hu] at e1
            cases e1
            have on : ∀ {p t b}, AmtAt K H p t b → AmtAt K H1 p t b := fun {p t b} h => by
              obtain ⟨dy, e⟩ := h
              exact ⟨dy, by rw [off p (fun z => by rw [z, hd] at e; cases e) (fun z => by rw [z, hd2] at e; cases e)]; exact e⟩
            refine ⟨p, q, rfl, rfl, (on hp).ins, (on hq).ins, fun epq => ?_, fun Q' hQ => ⟨p, w.2.1, w.2.2, .inl ⟨q, _, _, rfl, on hq, on hp, ?_⟩⟩⟩
            · subst epq
              obtain ⟨d1, g1⟩ := hp
              obtain ⟨d2, g2⟩ := hq
              rw [g1] at g2
              injection g2 with g2
              injection g2 with _ _ g2
              have t1 := amtF_top w.2.1 w.2.2
              have b1 := amtF_bottom w.2.1 w.2.2
              rw [g2, amtF_top] at t1
              rw [g2, amtF_bottom] at b1
              injection t1 with t1; injection t1 with t1
              injection b1 with b1; injection b1 with b1
              show decide (wsGet ws w.1 = wsGet ws2 w.1) = true
              rw [wsGet_of nd mw]
              exact decide_eq_true (Prod.ext t1.symm b1.symm)
            · have e2 : decide (w.2.1 = (wsGet ws2 w.1).1 ∧ w.2.2 = (wsGet ws2 w.1).2) = decide (wsGet ws w.1 = wsGet ws2 w.1) := by
                rw [wsGet_of nd mw]
                exact decide_eq_decide.mpr ⟨fun h => Prod.ext h.1 h.2, fun h => by rw [h]; exact ⟨rfl, rfl⟩⟩
              rw [e2]
              exact hQ
        · rw [eqK_is hw hw2 nd]
          exact k
      · rw [decide_eq_false e, Bool.false_and] at k
        rw [decide_eq_false e]
        repeat walk_at "rd"
        exact k
    · have step : ∀ {Q : VK}, Q (.bl false) H → rIsi K [y, .ref (He.ga K "Form")] H Q := fun {Q} q => by
        rcases hy with ⟨i, rfl⟩ | ⟨z, rfl⟩ | ⟨p, t, b, rfl, dy, e⟩
        · exact r_isi (b := false) ty_int (.own _) T.kt_int_Form q
        · exact r_isi (b := false) ty_str (.own _) T.kt_str_Form q
        · exact r_isi (b := false) (ty_own e T.c_Amount T.i_Amount) (.own _) T.kt_Amount_Form q
      refine step ?_
      repeat walk_at "rd"
      exact k

end
section
variable {P : Program} {w : World} {K : PySem.W.Frag} {mg : Str → Option Value} {base : Heap}
/-! ### texts of forms -/
def unsT (u : Int × Int) : Str := if u.1 < 0 then amtS (low (-u.1) u.2).1 (low (-u.1) u.2).2 else amtS u.1 u.2
def partT (w : Str × Int × Int) : Int × Str := (sgn w.2.1, if unsT w.2 = "1" then w.1 else Str.empty ++ unsT w.2 ++ " " ++ w.1)
def headT (c : Int × Int) (ws : Ws) : List (Int × Str) := if c.1 ≠ 0 ∨ ws = [] then [(sgn c.1, unsT c)] else []
def moreT (acc : Str) (p : Int × Str) : Str := if p.1 < 0 then Str.empty ++ acc ++ " - " ++ p.2 else Str.empty ++ acc ++ " + " ++ p.2
def joinT : List (Int × Str) → Str
  | [] => ""
  | p :: r => r.foldl moreT (if p.1 < 0 then Str.empty ++ "-" ++ p.2 else p.2)
def formT (c : Int × Int) (ws : Ws) : Str := joinT (headT c ws ++ ws.map partT)
def sp_uns (K : PySem.W.Frag) : Sp := fun vs H Q _ => ∃ a t b, vs = [.ref a] ∧ AmtAt K H a t b ∧ b ≠ 0 ∧ Sz 1900 t ∧ Sz 1900 b ∧ ∀ H', Same H H' → Q (.str (unsT (t, b))) H'
theorem sgn_neg {t : Int} : sgn t < 0 ↔ t < 0 := by
  unfold sgn
  split
  · omega
  · split <;> omega
inductive PartsAt (H : Hp) : List V → List (Int × Str) → Prop where
  | nil : PartsAt H [] []
  | cons {p : Addr} {s : Int} {z : Str} {vs : List V} {ps : List (Int × Str)} (h : H p = some (.tup [.int s, .str z])) (r : PartsAt H vs ps) : PartsAt H (.ref p :: vs) ((s, z) :: ps)
theorem PartsAt.mono {H H' : Hp} {vs : List V} {ps : List (Int × Str)} (h : PartsAt H vs ps) (s : ∀ b xs, H b = some (.tup xs) → H' b = some (.tup xs)) : PartsAt H' vs ps := by
  induction h with
  | nil => exact .nil
  | cons e _ ih => exact .cons (s _ _ e) ih
theorem PartsAt.snoc {H : Hp} {vs : List V} {ps : List (Int × Str)} {p : Addr} {s : Int} {z : Str} (h : PartsAt H vs ps) (e : H p = some (.tup [.int s, .str z])) : PartsAt H (vs ++ [.ref p]) (ps ++ [(s, z)]) := by
  induction h with
  | nil => exact .cons e .nil
  | cons e' _ ih => exact .cons e' ih
theorem PartsAt.app {H : Hp} {vs us : List V} {ps qs : List (Int × Str)} (h : PartsAt H vs ps) (g : PartsAt H us qs) : PartsAt H (vs ++ us) (ps ++ qs) := by
  induction h with
  | nil => exact g
  | cons e _ ih => exact .cons e ih
theorem PartsAt.length {H : Hp} {vs : List V} {ps : List (Int × Str)} (h : PartsAt H vs ps) : vs.length = ps.length := by
  induction h with
  | nil => rfl
  | cons _ _ ih => rw [List.length_cons, List.length_cons, ih]
theorem PartsAt.get {H : Hp} {vs : List V} {ps : List (Int × Str)} (h : PartsAt H vs ps) : ∀ (i : Nat) (v : V), vs[i]? = some v → ∃ p s z, v = .ref p ∧ ps[i]? = some (s, z) ∧ H p = some (.tup [.int s, .str z]) := by
  induction h with
  | nil => intro i v e; cases e
  | cons e _ ih =>
    intro i v hv
    cases i with
    | zero => cases hv; exact ⟨_, _, _, rfl, rfl, e⟩
    | succ i => exact ih i v hv
theorem amtS_len {t b : Int} (h1 : Sz 1900 t) (h2 : Sz 1900 b) : (amtS t b).length ≤ 4000 := by
  have y1 := int_text_len_1921 (h1.log (m := 1920) (by decide) (by decide))
  have y2 := int_text_len_1921 (h2.log (m := 1920) (by decide) (by decide))
  unfold amtS
  split
  · exact Nat.le_trans y1 (by decide)
  · walk_at "len"
theorem unsT_len {u : Int × Int} (h0 : u.2 ≠ 0) (h1 : Sz 1900 u.1) (h2 : Sz 1900 u.2) : (unsT u).length ≤ 4000 := by
  unfold unsT
  split
  · have l := low_ok (t := -u.1) h0 h1.neg h2
    exact amtS_len l.2.1 l.2.2
  · exact amtS_len h1 h2
theorem ln5 : (Str.ofString " ").length = 1 := by decide +kernel
theorem ln6 : (Str.ofString "-").length = 1 := by decide +kernel
theorem ln7 : (Str.ofString " - ").length = 3 := by decide +kernel
theorem ln8 : (Str.ofString " + ").length = 3 := by decide +kernel
theorem ln9 : (Str.ofString "Form(").length = 5 := by decide +kernel
local macro_rules
  | `(tactic| walk_at "len") => `(tactic| (simp only [PySem.Str.length_append, ln0, ln1, ln2, ln3, ln4, lnL, ln5, ln6, ln7, ln8, ln9]; omega))
theorem symB_len {z : Str} (h : symB z = true) : z.length ≤ 24 := by
  unfold symB at h
  exact (of_decide_eq_true (Bool.and_eq_true_iff.mp h).1).2
theorem partT_len {w : Str × Int × Int} (hs : symB w.1 = true) (h0 : w.2.2 ≠ 0) (h1 : Sz 1900 w.2.1) (h2 : Sz 1900 w.2.2) : (partT w).2.length ≤ 4100 := by
  have a := unsT_len h0 h1 h2
  have b := symB_len hs
  show (if unsT w.2 = "1" then w.1 else Str.empty ++ unsT w.2 ++ " " ++ w.1).length ≤ 4100
  split
  · omega
  · walk_at "len"
theorem moreT_len {acc : Str} {p : Int × Str} : (moreT acc p).length ≤ acc.length + p.2.length + 3 := by
  unfold moreT
  split <;> walk_at "len"
theorem r_gen {t : TS} {n b c : L2.St → Hp → Prop} {r : VK} {σ : L2.St} {H : Hp} (R : L2.St → Hp → Prop) (h : ∀ n', (∀ σ' H', R σ' H' → n' σ' H') → t ⟨n', r, b, c⟩ σ H) (hq : ∀ σ' H', R σ' H' → n σ' H') : t ⟨n, r, b, c⟩ σ H := h n hq
def sp_ftext (K : PySem.W.Frag) : Sp := fun vs H Q _ => ∃ ca d, ∃ c : Int × Int, ∃ kvs ws, vs = [.ref ca, .ref d] ∧ AmtAt K H ca c.1 c.2 ∧ H d = some (.dK kvs) ∧ WsAt K H kvs ws ∧ WOk 1900 ws ∧ (c.2 ≠ 0 ∧ Sz 1900 c.1 ∧ Sz 1900 c.2) ∧ ∀ H', Same H H' → (formT c ws).length ≤ 1000000 → Q (.str (formT c ws)) H'
theorem sc_unsigned_text : FnScope ["amount"] ["amount"] (defScope s_unsigned_text) := ⟨rfl, rfl, rfl, by decide +kernel, rfl, by decide +kernel, by decide +kernel⟩
theorem ok_unsigned_text (T : Tx K mg) : FnG P w K mg base CX0 true 5 (He.ga K "unsigned_text") T.fd_unsigned_text ["amount"] (sp_uns K) := by
  refine funG T.F_unsigned_text sc_unsigned_text (fun vs H Q E h => ?_) (fun cdv A outer s H vs Q E hr hg h => ?_)
  · obtain ⟨a, t, b, e, _⟩ := h; rw [e]; rfl
  · obtain ⟨a, t, b, rfl, ha, b0, tz, bz, k⟩ := h
    refine ⟨_, (pss_one (ps_ret (pe_ifExp (pt_cmpR op_lt (pg_prop (pv 0) T.c_Amount T.p_Amount_sign (ok_Amount_sign T) (hr.mono (by decide)) hg T.b_Amount_sign .nil pass0 rfl) pe_int (nomark _)) (pe_callTy (cr_strOwn T.o_Amount_str (ok_AmountU_strU T) (hr.mono (by decide)) hg T.b_AmountU_strU pass0) (by rfl) T.m_str (by decide +kernel) (pa_cons (pe_un (un_own T.o_Amount_neg (ok_AmountU_negU T) (hr.mono (by decide)) hg T.b_AmountU_negU pass0) (pv 0)) pa_nil)) (pe_callTy (cr_strOwn T.o_Amount_str (ok_AmountU_strU T) (hr.mono (by decide)) hg T.b_AmountU_strU pass0) (by rfl) T.m_str (by decide +kernel) (pa_cons (pv 0) pa_nil))))), ?_⟩
    unfold unsT at k
    walk_at "st"
    repeat walk_at "rd"
    rw [show decide (sgn t < 0) = decide (t < 0) from decide_eq_decide.mpr sgn_neg]
    refine r_dec (fun e => ?_) (fun e => ?_)
    · rw [if_pos e] at k
      repeat walk_at "rd"
      have l := low_ok (t := -t) b0 tz.neg bz
      refine ⟨a, rfl, ha.ins, a, t, b, rfl, ha, bz.mono (by decide), b0, fun p H1 s1 hp => ?_⟩
      repeat walk_at "rd"
      exact ⟨p, rfl, hp.ins, p, _, _, rfl, hp, l.2.1, l.2.2, _, rfl, k H1 s1⟩
    · rw [if_neg e] at k
      repeat walk_at "rd"
      exact ⟨a, rfl, ha.ins, a, t, b, rfl, ha, tz, bz, _, rfl, k H (fun _ _ e => e)⟩
def sp_trm (K : PySem.W.Frag) : Sp := fun vs H Q _ => ∃ z a t b, vs = [.str z, .ref a] ∧ AmtAt K H a t b ∧ b ≠ 0 ∧ Sz 1900 t ∧ Sz 1900 b ∧ z.length ≤ 24 ∧ ∀ H', Same H H' → Q (.str (partT (z, t, b)).2) H'
theorem sc_term_text : FnScope ["symbol", "weight", "factor"] ["symbol", "weight"] (defScope s_term_text) := ⟨rfl, rfl, rfl, by decide +kernel, rfl, by decide +kernel, by decide +kernel⟩
theorem ok_term_text (T : Tx K mg) : FnG P w K mg base CX0 true 6 (He.ga K "term_text") T.fd_term_text ["symbol", "weight"] (sp_trm K) := by
  refine funG T.F_term_text sc_term_text (fun vs H Q E h => ?_) (fun cdv A outer s H vs Q E hr hg h => ?_)
  · obtain ⟨z, a, t, b, e, _⟩ := h; rw [e]; rfl
  · obtain ⟨z, a, t, b, rfl, ha, b0, tz, bz, zl, k⟩ := h
    refine ⟨_, (pss_cons (ps_set (i := 2) sc_term_text.nd rfl (by first | exact Or.inl rfl | exact Or.inr rfl) (pg_call (ok_unsigned_text T) (hr.mono (by decide)) hg (by rfl) T.g_unsigned_text T.F_unsigned_text.kp T.b_unsigned_text .nil pass0 (pa_cons (pv 1) pa_nil)))
    (pss_one (ps_ret (pe_ifExp (pt_cmpR op_eq (pv 2) pe_str (nomark _)) (pv 0) (pe_joined (.cons (pe_fmt (pv 2)) (.cons pe_str (.cons (pe_fmt (pv 0)) .nil)))))))), ?_⟩
    have ul : (unsT (t, b)).length ≤ 4000 := unsT_len b0 tz bz
    unfold partT at k
    dsimp only at k
    walk_at "st"
    repeat walk_at "rd"
    refine ⟨a, t, b, rfl, ha, b0, tz, bz, fun H1 s1 => ?_⟩
    repeat walk_at "rd"
    refine r_dec (fun e => ?_) (fun e => ?_)
    · repeat walk_at "rd"
      have z := k H1 s1
      rw [if_pos e] at z
      exact z
    · repeat walk_at "rd"
      refine .inl ⟨_, rfl, by rw [lnL]; omega, ⟨_, rfl, by walk_at "len", ?_⟩⟩
      repeat walk_at "rd"
      refine ⟨_, rfl, by walk_at "len", ?_⟩
      repeat walk_at "rd"
      refine .inl ⟨_, rfl, by rw [lnL]; omega, ⟨_, rfl, by walk_at "len", ?_⟩⟩
      repeat walk_at "rd"
      have z := k H1 s1
      rw [if_neg e] at z
      exact z
theorem sc_form_text : FnScope ["constant", "weights", "constants", "parts", "symbol", "weight", "sign", "text", "part"] ["constant", "weights"] (defScope s_form_text) := ⟨rfl, rfl, rfl, by decide +kernel, rfl, by decide +kernel, by decide +kernel⟩
theorem ok_form_text (T : Tx K mg) : FnG P w K mg base CX0 true 7 (He.ga K "form_text") T.fd_form_text ["constant", "weights"] (sp_ftext K) := by
  refine funG T.F_form_text sc_form_text (fun vs H Q E h => ?_) (fun cdv A outer s H vs Q E hr hg h => ?_)
  · obtain ⟨ca, d, c, kvs, ws, e, _⟩ := h; rw [e]; rfl
  · obtain ⟨ca, d, c, kvs, ws, rfl, hc, hd, hw, w, ⟨c0, cz1, cz2⟩, k⟩ := h
    refine ⟨_, (pss_cons (ps_set (i := 2) sc_form_text.nd rfl (by first | exact Or.inl rfl | exact Or.inr rfl) (pe_ifExp (PW.pt (pw_or (pt_truthK (K' := K) (pg_prop (pv 0) T.c_Amount T.p_Amount_sign (ok_Amount_sign T) (hr.mono (by decide)) hg T.b_Amount_sign .nil pass0 rfl) (by intro _; rfl)) (pw_or1 (pt_not (pt_truthK (K' := K) (pv 1) (by intro _; rfl)))))) (pe_lst (pa_cons (pe_tup (pa_cons (pg_prop (pv 0) T.c_Amount T.p_Amount_sign (ok_Amount_sign T) (hr.mono (by decide)) hg T.b_Amount_sign .nil pass0 rfl) (pa_cons (pg_call (ok_unsigned_text T) (hr.mono (by decide)) hg (by rfl) T.g_unsigned_text T.F_unsigned_text.kp T.b_unsigned_text .nil pass0 (pa_cons (pv 0) pa_nil)) pa_nil))) pa_nil)) (pe_lst pa_nil)))
    (pss_cons (ps_set (i := 3) sc_form_text.nd rfl (by first | exact Or.inl rfl | exact Or.inr rfl) (pe_lst (StX.pa_star (pv 2) (StX.pa_star (pe_lock (pe_lc (own := [("symbol", 4), ("weight", 5)]) (by rfl) sc_form_text.nd (pi_items (pv 1)) (blkOk_by (own := [("symbol", 4), ("weight", 5)]) (N := ["constant", "weights", "constants", "parts", "symbol", "weight", "sign", "text", "part"]) (sc := defScope s_form_text) (by decide +kernel)) (fun _ _ _ _ _ => (pg_tupK (K' := K) (n := 2) (by rfl) (pgs_cons (pg_name (i := 4) sc_form_text.nd rfl (by first | exact Or.inl rfl | exact Or.inr rfl)) (pgs_cons (pg_name (i := 5) sc_form_text.nd rfl (by first | exact Or.inl rfl | exact Or.inr rfl)) pgs_nil)))) (fun _ _ _ _ _ => pts_nil) (fun _ _ _ _ _ => (pe_tup (pa_cons (pg_prop (pv 5) T.c_Amount T.p_Amount_sign (ok_Amount_sign T) (hr.mono (by decide)) hg T.b_Amount_sign .nil pass0 rfl) (pa_cons (pg_call (ok_term_text T) (hr.mono (by decide)) hg (by rfl) T.g_term_text T.F_term_text.kp T.b_term_text .nil pass0 (pa_cons (pv 4) (pa_cons (pv 5) pa_nil))) pa_nil)))))) pa_nil))))
    (pss_cons (ps_asg (pe_ix (ix_listK (K' := K)) (pv 3) pe_int (fun _ _ => rfl)) (pg_tupK (K' := K) (n := 2) (by rfl) (pgs_cons (pg_name (i := 6) sc_form_text.nd rfl (by first | exact Or.inl rfl | exact Or.inr rfl)) (pgs_cons (pg_name (i := 7) sc_form_text.nd rfl (by first | exact Or.inl rfl | exact Or.inr rfl)) pgs_nil))))
    (pss_cons (ps_set (i := 7) sc_form_text.nd rfl (by first | exact Or.inl rfl | exact Or.inr rfl) (pe_ifExp (pt_cmpR op_lt (pv 6) pe_int (nomark _)) (pe_joined (.cons pe_str (.cons (pe_fmt (pv 7)) .nil))) (pv 7)))
    (pss_cons (ps_for PassesOwn.never (by rfl) (pi_list (pe_slice sl_list (pv 3) (po_some pe_int) po_none)) (pg_tupK (K' := K) (n := 2) (by rfl) (pgs_cons (pg_name (i := 6) sc_form_text.nd rfl (by first | exact Or.inl rfl | exact Or.inr rfl)) (pgs_cons (pg_name (i := 8) sc_form_text.nd rfl (by first | exact Or.inl rfl | exact Or.inr rfl)) pgs_nil))) (pss_one (ps_set (i := 7) sc_form_text.nd rfl (by first | exact Or.inl rfl | exact Or.inr rfl) (pe_ifExp (pt_cmpR op_lt (pv 6) pe_int (nomark _)) (pe_joined (.cons (pe_fmt (pv 7)) (.cons pe_str (.cons (pe_fmt (pv 8)) .nil)))) (pe_joined (.cons (pe_fmt (pv 7)) (.cons pe_str (.cons (pe_fmt (pv 8)) .nil))))))))
    (pss_one (ps_ret (pv 7)))))))), ?_⟩
    walk_at "st"
    refine r_seq ?_
    refine r_gen (fun σ' H' => ∃ L vs, σ' = [some (.ref ca), some (.ref d), some (.ref L), none, none, none, none, none, none] ∧ H' L = some (.lst vs) ∧ PartsAt H' vs (headT c ws) ∧ Same H H') (fun n' kn => ?_) ?_
    · have one : (c.1 ≠ 0 ∨ ws = []) → tLst (tCons (tTup (tCons (tProp (He.ga K (Str.ofString "Amount")) (sp_get K fun t x => sgn t) [] E0 (tVar 0)) (tCons (tCall (sp_uns K) [] E0 (tCons (tVar 0) tNil)) tNil))) tNil)
            [some (V.ref ca), some (V.ref d), none, none, none, none, none, none, none] H fun x H1 => gName 2 x [some (V.ref ca), some (V.ref d), none, none, none, none, none, none, none] H1 n' := fun hw0 => by
        repeat walk_at "rd"
        refine ⟨ca, c.1, c.2, rfl, hc, c0, cz1, cz2, fun H2 s2 => ?_⟩
        repeat walk_at "rd"
        refine r_new (by show 2 ≤ 100000; decide) (fun p H3 hp s3 e3 _ => ?_)
        repeat walk_at "rd"
        refine r_new (by show 1 ≤ 100000; decide) (fun L H4 hL s4 e4 _ => ?_)
        refine r_gname (kn _ _ ⟨L, _, rfl, e4, ?_, (s2.trans s3).trans s4⟩)
        unfold headT
        rw [if_pos hw0]
        exact .cons (s4 _ _ e3) .nil
      have none_ : ¬ (c.1 ≠ 0 ∨ ws = []) → tLst tNil [some (V.ref ca), some (V.ref d), none, none, none, none, none, none, none] H fun x H1 => gName 2 x [some (V.ref ca), some (V.ref d), none, none, none, none, none, none, none] H1 n' := fun hw0 => by
        repeat walk_at "rd"
        refine r_new (by show 0 ≤ 100000; decide) (fun L H4 hL s4 e4 _ => ?_)
        refine r_gname (kn _ _ ⟨L, _, rfl, e4, ?_, s4⟩)
        unfold headT
        rw [if_neg hw0]
        exact .nil
      have tr : (∃ k, TruV K (V.int (sgn c.1)) H k ∧ k = decide (c.1 ≠ 0)) := by
        refine ⟨_, ?_, rfl⟩
        show decide (c.1 ≠ 0) = (sgn c.1 != 0)
        unfold sgn
        by_cases h0 : c.1 = 0
        · rw [if_pos h0, decide_eq_false (fun z => z h0)]; rfl
        · rw [if_neg h0, decide_eq_true h0]; split <;> rfl
      obtain ⟨k1, t1, e1⟩ := tr
      repeat walk_at "rd"
      refine ⟨k1, t1, ?_⟩
      by_cases h0 : c.1 = 0
      · rw [e1, decide_eq_false (fun z => z h0), if_neg Bool.false_ne_true]
        repeat walk_at "rd"
        have em : (kvs = [] ∧ ws = []) ∨ (kvs ≠ [] ∧ ws ≠ []) := by
          cases hw with
          | nil => exact .inl ⟨rfl, rfl⟩
          | cons _ _ => exact .inr ⟨by simp, by simp⟩
        refine ⟨!kvs.isEmpty, .inr (.inr ⟨kvs, hd, rfl⟩), ?_⟩
        rcases em with ⟨m1, m2⟩ | ⟨m1, m2⟩
        · rw [m1, if_pos (by rfl)]
          exact one (.inr m2)
        · rw [show (!(!kvs.isEmpty)) = false from by cases kvs with | nil => exact absurd rfl m1 | cons _ _ => rfl, if_neg Bool.false_ne_true]
          exact none_ (fun z => z.elim (fun z => z h0) m2)
      · rw [e1, decide_eq_true h0, if_pos rfl, if_pos rfl]
        exact one (.inl h0)
    · rintro σ' H2 ⟨L, vs, rfl, e2, p2, sL⟩
      have hw2 := hw.same sL
      have hlen := hw.length
      have hh : (headT c ws).length ≤ 1 := by unfold headT; split <;> simp
      have hvl := p2.length
      repeat walk_at "rd"
      refine r_star ?_
      repeat walk_at "rd"
      refine q_starL e2 ?_
      refine r_star ?_
      repeat walk_at "rd"
      refine r_lockE (sL _ _ hd) trivial (fun od H3 e3 ne3 => ?_)
      have nLd : L ≠ d := fun z => by rw [z, sL _ _ hd] at e2; cases e2
      repeat walk_at "rd"
      refine r_items ?_
      repeat walk_at "rd"
      refine ⟨d, od, kvs, rfl, e3, u_lcI (fun D H4 hD s4 e4 _ => ⟨fun i H' => ∃ us, H' D = some (.lst us) ∧ PartsAt H' us ((ws.take i).map partT) ∧ H' d = some (.frz od (.dK kvs)) ∧ ∀ b, b ≠ d → ∀ o, H2 b = some o → H' b = some o, ⟨[], e4, .nil, s4 _ _ e3, fun b hb o eb => s4 _ _ (by rw [ne3 b hb]; exact eb)⟩,
        (fun i H' _ z => by obtain ⟨_, _, _, f, _⟩ := z; exact f), ?_, ?_⟩)⟩
      · rintro i key v' T4 H5 H6 hi ⟨us, e5, p5, f5, k5⟩ hT s6 e6 ne6
        obtain ⟨y, p, ey, rfl, rfl, hp⟩ := hw2.get2 i key v' hi
        have hi2 : i < ws.length := (List.getElem?_eq_some_iff.mp ey).1
        have hp6 : AmtAt K H6 p y.2.1 y.2.2 := by
          obtain ⟨dy, e⟩ := hp
          exact ⟨dy, s6 _ _ (k5 p (fun z => by rw [z, sL _ _ hd] at e; cases e) _ e)⟩
        obtain ⟨y0, yz1, yz2⟩ := w.num y (List.mem_of_getElem? ey)
        have ysym := w.sym y (List.mem_of_getElem? ey)
        have sl := symB_len ysym.1
        have pl := p5.length
        rw [List.length_map, List.length_take] at pl
        have wf := w.few
        refine r_gtup (.inl (.inl e6)) (by rfl) ?_
        dsimp only [L2.kV]
        repeat walk_at "rd"
        refine ⟨rfl, ?_⟩
        refine r_tY ?_
        rw [if_pos rfl]
        repeat walk_at "rd"
        refine ⟨y.1, p, y.2.1, y.2.2, rfl, hp6, y0, yz1, yz2, sl, fun H7 s7 => ?_⟩
        repeat walk_at "rd"
        refine r_new (by show 2 ≤ 100000; decide) (fun q H8 hq s8 e8 _ => ?_)
        have e58 := s8 _ _ (s7 _ _ (s6 _ _ e5))
        refine g_grow e58 (by omega) (fun H9 e9 ne9 => ⟨_, e9, ?_, ?_, fun b hb o eb => ?_⟩)
        · rw [List.take_add_one, ey, List.map_append]
          have m : ∀ b xs, H8 b = some (.tup xs) → H9 b = some (.tup xs) := fun b xs eb => by rw [ne9 b (fun z => by rw [z, e58] at eb; cases eb)]; exact eb
          exact ((p5.mono fun b xs eb => s8 _ _ (s7 _ _ (s6 _ _ eb))).mono m).snoc (m _ _ e8)
        · rw [ne9 d (fun z => by rw [← z, s8 _ _ (s7 _ _ (s6 _ _ f5))] at e58; cases e58)]
          exact s8 _ _ (s7 _ _ (s6 _ _ f5))
        · rw [ne9 b (fun z => by
            have n0 : H2 D ≠ some o := fun q => by
              have := ne3 D (fun q2 => by rw [q2, e3] at hD; cases hD)
              rw [hD] at this
              rw [← this] at q
              cases q
            exact n0 (z ▸ eb))]
          exact s8 _ _ (s7 _ _ (s6 _ _ (k5 b hb o eb)))
      · rintro H5 ⟨us, e5, p5, f5, k5⟩
        refine ⟨f5, ?_⟩
        have nDd : D ≠ d := fun z => by rw [z, f5] at e5; cases e5
        have s5 : Same H2 (upd H5 d (.dK kvs)) := same_back (sL _ _ hd) k5
        have e5' : upd H5 d (.dK kvs) D = some (.lst us) := by rw [upd_ne nDd]; exact e5
        have p5' : PartsAt (upd H5 d (.dK kvs)) us (ws.map partT) := by
          rw [hlen, List.take_length] at p5
          exact p5.mono fun b xs eb => by rw [upd_ne (fun z => by rw [z, f5] at eb; cases eb)]; exact eb
        generalize upd H5 d (.dK kvs) = H6 at *
        have pl := p5'.length
        rw [List.length_map] at pl
        have wf := w.few
        refine q_starL e5' ?_
        repeat walk_at "rd"
        refine r_new (by simp only [List.length_append, List.length_nil]; omega) (fun P2 H7 hP2 s7 e7 _ => ?_)
        have pp : PartsAt H7 (vs ++ (us ++ [])) (headT c ws ++ ws.map partT) := by
          rw [List.append_nil]
          exact (p2.mono fun b xs eb => s7 _ _ (s5 _ _ eb)).app (p5'.mono fun b xs eb => s7 _ _ eb)
        have s5 : Same H H7 := (sL.trans s5).trans s7
        have e5 := e7
        clear e7 p5' p2 e5' hvl pl
        generalize vs ++ (us ++ []) = vv at *
        rename_i s5old _
        clear s5old s7
        generalize H7 = H5 at *
        have p5 := pp
        clear pp
        have ne : headT c ws ++ ws.map partT ≠ [] := by
          unfold headT
          by_cases h : c.1 ≠ 0 ∨ ws = []
          · rw [if_pos h]; simp
          · rw [if_neg h]
            intro z
            rw [List.nil_append, List.map_eq_nil_iff] at z
            exact h (.inr z)
        have lens : ∀ q ∈ headT c ws ++ ws.map partT, q.2.length ≤ 4100 := fun q hq => by
          rcases List.mem_append.mp hq with h | h
          · unfold headT at h
            split at h
            · rw [List.mem_singleton] at h
              rw [h]
              exact Nat.le_trans (unsT_len c0 cz1 cz2) (by decide)
            · cases h
          · obtain ⟨y, hy, rfl⟩ := List.mem_map.mp h
            obtain ⟨y0, z1, z2⟩ := w.num y hy
            exact partT_len (w.sym y hy).1 y0 z1 z2
        have cnt : (headT c ws ++ ws.map partT).length ≤ 64 := by
          rw [List.length_append, List.length_map]
          have := w.few
          omega
        have fin : formT c ws = joinT (headT c ws ++ ws.map partT) := rfl
        rw [fin] at k
        clear fin
        generalize headT c ws ++ ws.map partT = pq at *
        cases p5 with
        | nil => exact absurd rfl ne
        | @cons q0 t0 z0 vr pr e0 r0 =>
        have l0 := lens _ List.mem_cons_self
        have z0l : z0.length ≤ 4100 := l0
        have rl := r0.length
        rw [List.length_cons] at cnt
        repeat walk_at "rd"
        refine r_ixL (.inl (.inl e5)) (show atI (V.ref q0 :: vr) ((0 : Nat) : Int) = some (V.ref q0) from atI_nat rfl) ?_
        refine r_gtup (.inl (.inl e0)) (by rfl) ?_
        repeat walk_at "rd"
        have rest : ∀ z, z = (if t0 < 0 then Str.empty ++ "-" ++ z0 else z0) → tSeq (tFor (iList K (tSl (rSlL K) (tVar 3) (tPart (tC (V.int 1))) tNoPart)) (gTup K 2 (gCons (gName 6) (gCons (gName 8) gNil)))
            (tAsg (tIf (tTest (tOp (rI0 fun i j => V.bl (decide (i < j))) (tVar 6) (tC (V.int 0)))) (fun σ H Q => tJs [tFmt (tVar 7), tC (V.str (Str.ofString " - ")), tFmt (tVar 8)] Str.empty σ H fun out H1 => Q (V.str out) H1)
              fun σ H Q => tJs [tFmt (tVar 7), tC (V.str (Str.ofString " + ")), tFmt (tVar 8)] Str.empty σ H fun out H1 => Q (V.str out) H1) (gName 7))) (tRet (tVar 7))
            { nx := fun x H' => Q V.non H', rt := Q } [some (V.ref ca), some (V.ref d), some (V.ref L), some (V.ref P2), none, none, some (V.int t0), some (V.str z), none] H5 := fun z ez => by
          have zl : z.length ≤ 4101 := by
            rw [ez]
            split
            · walk_at "len"
            · omega
          repeat walk_at "rd"
          refine r_slice ?_
          repeat walk_at "rd"
          refine r_part ?_
          repeat walk_at "rd"
          refine ⟨1, rfl, r_noPart ⟨P2, _, rfl, .inl (.inl e5), fun p hp => ?_⟩⟩
          rw [cut1]
          generalize e6 : upd H5 p (.lst vr) = H6
          have s6 : Same H5 H6 := fun b o eb => by rw [← e6, upd_ne (ne_of_none eb hp)]; exact eb
          have e6' : H6 p = some (.lst vr) := by rw [← e6, upd_same]
          clear e6
          have r6 := r0.mono fun b xs eb => s6 _ _ eb
          refine ⟨p, rfl, ⟨vr, .inl (.inl e6')⟩, u_list (xs := vr) (fun i σ H' => ∃ acc x6 x8, σ = [some (V.ref ca), some (V.ref d), some (V.ref L), some (V.ref P2), none, none, x6, some (V.str acc), x8] ∧ acc = (pr.take i).foldl moreT z ∧ acc.length ≤ 4101 + 4103 * i ∧ H' = H6) ⟨z, _, _, rfl, rfl, by omega, rfl⟩ (fun i σ H' _ h => by obtain ⟨_, _, _, _, _, _, e⟩ := h; rw [e]; exact .inl (.inl e6')) ?_ ?_⟩
          · rintro i x σ H' hx ⟨acc, x6, x8, rfl, ea, la, rfl⟩
            obtain ⟨q, t1, z1, rfl, eq1, e1⟩ := r6.get i x hx
            have hi : i < pr.length := (List.getElem?_eq_some_iff.mp eq1).1
            have z1l : z1.length ≤ 4100 := lens _ (List.mem_cons_of_mem _ (List.mem_of_getElem? eq1))
            have nxt : (pr.take (i + 1)).foldl moreT z = moreT acc (t1, z1) := by
              rw [List.take_add_one, eq1, List.foldl_append, ← ea]
              rfl
            have nl : (moreT acc (t1, z1)).length ≤ 4101 + 4103 * (i + 1) := by
              have m := moreT_len (acc := acc) (p := (t1, z1))
              have : (t1, z1).2.length ≤ 4100 := z1l
              omega
            refine r_gtup (.inl (.inl e1)) (by rfl) ?_
            repeat walk_at "rd"
            refine r_dec (fun et => ?_) (fun et => ?_)
            · have eo : moreT acc (t1, z1) = Str.empty ++ acc ++ " - " ++ z1 := if_pos et
              repeat walk_at "rd"
              refine .inl ⟨_, rfl, by rw [lnL]; omega, ⟨_, rfl, by walk_at "len", ?_⟩⟩
              repeat walk_at "rd"
              refine ⟨_, rfl, by walk_at "len", ?_⟩
              repeat walk_at "rd"
              refine .inl ⟨_, rfl, by rw [lnL]; omega, ⟨_, rfl, by walk_at "len", ?_⟩⟩
              repeat walk_at "rd"
              exact ⟨_, _, _, rfl, by rw [nxt, eo], by rw [eo] at nl; exact nl, rfl⟩
            · have eo : moreT acc (t1, z1) = Str.empty ++ acc ++ " + " ++ z1 := if_neg et
              repeat walk_at "rd"
              refine .inl ⟨_, rfl, by rw [lnL]; omega, ⟨_, rfl, by walk_at "len", ?_⟩⟩
              repeat walk_at "rd"
              refine ⟨_, rfl, by walk_at "len", ?_⟩
              repeat walk_at "rd"
              refine .inl ⟨_, rfl, by rw [lnL]; omega, ⟨_, rfl, by walk_at "len", ?_⟩⟩
              repeat walk_at "rd"
              exact ⟨_, _, _, rfl, by rw [nxt, eo], by rw [eo] at nl; exact nl, rfl⟩
          · rintro σ H' ⟨acc, x6, x8, rfl, ea, la, rfl⟩
            rw [rl, List.take_length] at ea
            have ej : acc = joinT ((t0, z0) :: pr) := by
              rw [ea, ez]
              rfl
            rw [← ej] at k
            repeat walk_at "rd"
            exact k _ (s5.trans s6) (by omega)
        refine r_dec (fun et => ?_) (fun et => ?_)
        · repeat walk_at "rd"
          refine ⟨_, rfl, by walk_at "len", ?_⟩
          repeat walk_at "rd"
          refine .inl ⟨_, rfl, by rw [lnL]; omega, ⟨_, rfl, by walk_at "len", ?_⟩⟩
          refine r_js0 ?_
          walk_at "rd"
          exact rest _ (by rw [if_pos et])
        · walk_at "rd"
          walk_at "rd"
          exact rest _ (by rw [if_neg et])
def sp_fstr (K : PySem.W.Frag) (f : Str → Str) : Sp := fun vs H Q _ => ∃ a, ∃ c : Int × Int, ∃ ws, vs = [.ref a] ∧ FrmAt K H a c ws ∧ WOk 1900 ws ∧ (c.2 ≠ 0 ∧ Sz 1900 c.1 ∧ Sz 1900 c.2) ∧ ∀ H', Same H H' → (formT c ws).length ≤ 1000000 → Q (.str (f (formT c ws))) H'
theorem sc_FormU_strU : FnScope ["self"] ["self"] (defScope s_FormU_strU) := ⟨rfl, rfl, rfl, by decide +kernel, rfl, by decide +kernel, by decide +kernel⟩
theorem ok_FormU_strU (T : Tx K mg) : FnG P w K mg base CX0 true 8 (He.ma K (He.ga K "Form") "__str__") T.fd_FormU_strU ["self"] (sp_fstr K id) := by
  refine funG T.F_FormU_strU sc_FormU_strU (fun vs H Q E h => ?_) (fun cdv A outer s H vs Q E hr hg h => ?_)
  · obtain ⟨a, c, ws, e, _⟩ := h; rw [e]; rfl
  · obtain ⟨a, c, ws, rfl, ha, w, hc0, k⟩ := h
    refine ⟨_, (pss_one (ps_ret (pe_callTy SkE.call_str_str (by rfl) T.m_str (by decide +kernel) (pa_cons (pg_call (ok_form_text T) (hr.mono (by decide)) hg (by rfl) T.g_form_text T.F_form_text.kp T.b_form_text .nil pass0 (pa_cons (pe_fld (pv 0) rfl) (pa_cons (pe_fld (pv 0) rfl) pa_nil))) pa_nil)))), ?_⟩
    obtain ⟨dx, ca, d, kvs, ea, hc, hd, hw⟩ := id ha
    walk_at "st"
    repeat walk_at "rd"
    refine q_fld ea T.c_Form T.n_Form_constant (frmF_c ca d) ?_
    repeat walk_at "rd"
    refine q_fld ea T.c_Form T.n_Form_weights (frmF_w ca d) ?_
    repeat walk_at "rd"
    refine ⟨ca, d, c, kvs, ws, rfl, hc, hd, hw, w, hc0, fun H1 s1 ln => ?_⟩
    repeat walk_at "rd"
    exact ⟨_, rfl, k H1 s1 ln⟩
theorem sc_FormU_reprU : FnScope ["self"] ["self"] (defScope s_FormU_reprU) := ⟨rfl, rfl, rfl, by decide +kernel, rfl, by decide +kernel, by decide +kernel⟩
theorem ok_FormU_reprU (T : Tx K mg) : FnG P w K mg base CX0 true 8 (He.ma K (He.ga K "Form") "__repr__") T.fd_FormU_reprU ["self"] (sp_fstr K (fun z => Str.empty ++ "Form(" ++ z ++ ")")) := by
  refine funG T.F_FormU_reprU sc_FormU_reprU (fun vs H Q E h => ?_) (fun cdv A outer s H vs Q E hr hg h => ?_)
  · obtain ⟨a, c, ws, e, _⟩ := h; rw [e]; rfl
  · obtain ⟨a, c, ws, rfl, ha, w, hc0, k⟩ := h
    refine ⟨_, (pss_one (ps_ret (pe_joined (.cons pe_str (.cons (pe_fmt (pg_call (ok_form_text T) (hr.mono (by decide)) hg (by rfl) T.g_form_text T.F_form_text.kp T.b_form_text .nil pass0 (pa_cons (pe_fld (pv 0) rfl) (pa_cons (pe_fld (pv 0) rfl) pa_nil)))) (.cons pe_str .nil)))))), ?_⟩
    obtain ⟨dx, ca, d, kvs, ea, hc, hd, hw⟩ := id ha
    walk_at "st"
    repeat walk_at "rd"
    refine ⟨_, rfl, by walk_at "len", ?_⟩
    repeat walk_at "rd"
    refine q_fld ea T.c_Form T.n_Form_constant (frmF_c ca d) ?_
    repeat walk_at "rd"
    refine q_fld ea T.c_Form T.n_Form_weights (frmF_w ca d) ?_
    repeat walk_at "rd"
    refine ⟨ca, d, c, kvs, ws, rfl, hc, hd, hw, w, hc0, fun H1 s1 ln => ?_⟩
    refine .inl ⟨_, rfl, by rw [lnL]; omega, ⟨_, rfl, by walk_at "len", ?_⟩⟩
    repeat walk_at "rd"
    refine ⟨_, rfl, by walk_at "len", ?_⟩
    repeat walk_at "rd"
    exact k H1 s1 ln

end
/-! ### the law's rows: a dict of names to pairs -/
inductive PsAt (H : Hp) : List (Key × V) → Ws → Prop where
  | nil : PsAt H [] []
  | cons {z : Str} {a : Addr} {t b : Int} {kvs : List (Key × V)} {ws : Ws} (h : TupAt H a t b) (r : PsAt H kvs ws) : PsAt H ((.inr z, .ref a) :: kvs) ((z, t, b) :: ws)
section
variable {H H' : Hp} {kvs : List (Key × V)} {ws : Ws}
theorem PsAt.length (h : PsAt H kvs ws) : kvs.length = ws.length := by
  induction h with
  | nil => rfl
  | cons _ _ ih => rw [List.length_cons, List.length_cons, ih]
theorem PsAt.mono (h : PsAt H kvs ws) (f : ∀ a t b, TupAt H a t b → TupAt H' a t b) : PsAt H' kvs ws := by
  induction h with
  | nil => exact .nil
  | cons a _ ih => exact .cons (f _ _ _ a) ih
theorem PsAt.same (h : PsAt H kvs ws) (s : Same H H') : PsAt H' kvs ws := h.mono fun _ _ _ x => x.same s
theorem PsAt.keysI (h : PsAt H kvs ws) : kvs.map (fun x => x.1) = (ws.map fun w => w.1).map Sum.inr := by
  induction h with
  | nil => rfl
  | cons _ _ ih => rw [List.map_cons, List.map_cons, List.map_cons, ih]
theorem PsAt.snoc {z : Str} {a : Addr} {t b : Int} (h : PsAt H kvs ws) (ha : TupAt H a t b) : PsAt H (kvs ++ [(.inr z, .ref a)]) (ws ++ [(z, t, b)]) := by
  induction h with
  | nil => exact .cons ha .nil
  | cons x _ ih => exact .cons x ih
theorem PsAt.get2 (h : PsAt H kvs ws) : ∀ (i : Nat) (k : Key) (v : V), kvs[i]? = some (k, v) → ∃ w a, ws[i]? = some w ∧ k = .inr w.1 ∧ v = .ref a ∧ TupAt H a w.2.1 w.2.2 := by
  induction h with
  | nil => intro i k v e; cases e
  | cons a _ ih =>
    intro i k v e
    cases i with
    | zero =>
      cases e
      exact ⟨_, _, rfl, rfl, rfl, a⟩
    | succ i => exact ih i k v e
theorem PsAt.getW (h : PsAt H kvs ws) : ∀ (i : Nat) (w : Str × Int × Int), ws[i]? = some w → ∃ a, kvs[i]? = some (.inr w.1, .ref a) ∧ TupAt H a w.2.1 w.2.2 := by
  induction h with
  | nil => intro i w e; cases e
  | cons a _ ih =>
    intro i w e
    cases i with
    | zero =>
      cases e
      exact ⟨_, rfl, a⟩
    | succ i => exact ih i w e
theorem PsAt.any {z : Str} (h : PsAt H kvs ws) : kvs.any (fun kv => decide (kv.1 = .inr z)) = ws.any (fun w => decide (w.1 = z)) := by
  induction h with
  | nil => rfl
  | @cons y a t b kvs ws ha _ ih =>
    rw [List.any_cons, List.any_cons, ih]
    have e : decide ((Sum.inr y : Key) = .inr z) = decide (y = z) := decide_eq_decide.mpr ⟨fun h => Sum.inr.inj h, fun h => by rw [h]⟩
    rw [show decide (((Sum.inr y : Key), V.ref a).1 = .inr z) = decide ((Sum.inr y : Key) = .inr z) from rfl, e]
theorem PsAt.put {z : Str} {a : Addr} {u : Int × Int} (h : PsAt H kvs ws) (ha : TupAt H a u.1 u.2) : PsAt H (putK kvs (.inr z) (.ref a)) (putW ws z u) := by
  have go : ∀ {kvs : List (Key × V)} {ws : Ws}, PsAt H kvs ws → PsAt H (kvs.map fun kv => if kv.1 = .inr z then (kv.1, V.ref a) else kv) (ws.map fun w => if w.1 = z then (w.1, u) else w) := by
    intro kvs ws h
    induction h with
    | nil => exact .nil
    | @cons y p t b kvs ws hp _ ih =>
      rw [List.map_cons, List.map_cons]
      by_cases e : y = z
      · subst e
        rw [if_pos rfl, if_pos rfl]
        exact .cons ha ih
      · rw [if_neg (fun q => e (Sum.inr.inj q)), if_neg e]
        exact .cons hp ih
  have e := h.any (z := z)
  unfold putK putW
  rw [e]
  split
  · exact go h
  · exact h.snoc ha
theorem PsAt.get {z : Str} (h : PsAt H kvs ws) : (valV kvs (.inr z) = none ∧ wsGet ws z = (0, 1) ∧ z ∉ ws.map fun w => w.1) ∨ ∃ a, valV kvs (.inr z) = some (.ref a) ∧ TupAt H a (wsGet ws z).1 (wsGet ws z).2 := by
  induction h with
  | nil => exact .inl ⟨rfl, rfl, by simp⟩
  | @cons y a t b kvs ws ha _ ih =>
    by_cases e : y = z
    · subst e
      refine .inr ⟨a, ?_, ?_⟩
      · unfold valV
        rw [List.find?_cons, decide_eq_true rfl]; rfl
      · unfold wsGet
        rw [List.find?_cons, decide_eq_true rfl]; exact ha
    · have e2 : ¬ (Sum.inr y : Key) = .inr z := fun q => e (Sum.inr.inj q)
      rcases ih with ⟨h1, h2, h3⟩ | ⟨a', h1, h2⟩
      · left
        refine ⟨?_, ?_, ?_⟩
        · unfold valV at h1 ⊢
          rw [List.find?_cons, decide_eq_false e2]; exact h1
        · rw [wsGet_cons, if_neg e]; exact h2
        · rw [List.map_cons, List.mem_cons, not_or]; exact ⟨fun q => e q.symm, h3⟩
      · right
        refine ⟨a', ?_, ?_⟩
        · unfold valV at h1 ⊢
          rw [List.find?_cons, decide_eq_false e2]; exact h1
        · rw [wsGet_cons, if_neg e]; exact h2
end
/-- the dict at d has these pairs, in this sequence -/
def RowAt (H : Hp) (d : Addr) (ws : Ws) : Prop := ∃ kvs, H d = some (.dK kvs) ∧ PsAt H kvs ws
theorem RowAt.same {H H' : Hp} {d : Addr} {ws : Ws} (h : RowAt H d ws) (s : Same H H') : RowAt H' d ws := let ⟨kvs, e, p⟩ := h; ⟨kvs, s _ _ e, p.same s⟩
theorem TupAt.off {H H' : Hp} {q d : Addr} {t b : Int} {l : List (Key × V)} (h : TupAt H q t b) (hd : H d = some (.dK l)) (ne : ∀ b, b ≠ d → H' b = H b) : TupAt H' q t b := by
  have : q ≠ d := by
    rintro rfl
    unfold TupAt at h
    rw [hd] at h
    cases h
  unfold TupAt
  rw [ne q this]
  exact h
/-! ### lowest terms, all over -/
def mapLow (ws : Ws) : Ws := ws.map fun w => (w.1, low w.2.1 w.2.2)
/-- bottoms positive, lowest terms -/
def Lw (u : Int × Int) : Prop := u.2 ≠ 0 ∧ low u.1 u.2 = u
def LwA (ws : Ws) : Prop := ∀ w ∈ ws, Lw w.2
theorem low_lw {t b : Int} (h : b ≠ 0) : Lw (low t b) := by
  have p := low_pos (t := t) h
  refine ⟨by omega, ?_⟩
  have ⟨h1, h2⟩ := low_mul (t := t) h
  have e : low (low t b).1 (low t b).2 = low t b := low_cross (by omega) h (by
    have a : (low t b).1 * b = (low t b).1 * ((low t b).2 * gd t b) := by rw [h2]
    have c : t * (low t b).2 = ((low t b).1 * gd t b) * (low t b).2 := by rw [h1]
    rw [a, c]
    grind)
  exact e
theorem Lw.pos {u : Int × Int} (h : Lw u) : 0 < u.2 := by
  have := low_pos (t := u.1) h.1
  rw [h.2] at this
  exact this
theorem Lw.neg {u : Int × Int} (h : Lw u) : Lw (-u.1, u.2) := by
  refine ⟨h.1, ?_⟩
  have e := h.2
  have p := h.pos
  unfold low gd at e ⊢
  dsimp only
  rw [if_neg (by omega)] at e ⊢
  have g : Nat.gcd (-u.1).natAbs u.2.natAbs = Nat.gcd u.1.natAbs u.2.natAbs := by rw [Int.natAbs_neg]
  rw [g]
  have e2 : u.2.fdiv ((Nat.gcd u.1.natAbs u.2.natAbs : Nat) : Int) = u.2 := congrArg Prod.snd e
  have g1 : ((Nat.gcd u.1.natAbs u.2.natAbs : Nat) : Int) = 1 := by
    have gz : 0 < Nat.gcd u.1.natAbs u.2.natAbs := Nat.gcd_pos_of_pos_right _ (by omega)
    have hm := (low_mul (t := u.1) h.1).2
    rw [h.2] at hm
    unfold gd at hm
    rw [if_neg (by omega)] at hm
    exact Int.eq_of_mul_eq_mul_left (by omega : u.2 ≠ 0) (by rw [hm, Int.mul_one])
  rw [g1]
  simp
theorem low_zero {t b : Int} (h : b ≠ 0) : (low t b).1 = 0 ↔ t = 0 := by
  have ⟨h1, _⟩ := low_mul (t := t) h
  constructor
  · intro z
    rw [z, Int.zero_mul] at h1
    exact h1.symm
  · rintro rfl
    rcases Int.mul_eq_zero.mp h1 with z | z
    · exact z
    · exact absurd z (gd_ne h)
theorem lw_one (t : Int) : Lw (t, 1) := ⟨by show (1 : Int) ≠ 0; decide, low_one t⟩
theorem sortK_map {ws : Ws} {g : Str × Int × Int → Str × Int × Int} (hg : ∀ w, (g w).1 = w.1) (nd : (ws.map fun w => w.1).Nodup) : sortK (fun w => w.1) (ws.map g) = (sortK (fun w => w.1) ws).map g := by
  have e : ∀ l : Ws, (l.map g).map (fun w => w.1) = l.map fun w => w.1 := fun l => by
    rw [List.map_map]
    exact List.map_congr_left fun w _ => hg w
  have pw : ((sortK (fun w => w.1) ws).map g).Pairwise fun a b => leS a.1 b.1 = true := by
    rw [List.pairwise_map]
    exact (sortK_pw (f := fun w : Str × Int × Int => w.1) (l := ws)).imp fun {a b} h => by rw [hg, hg]; exact h
  refine (List.Perm.eq_of_pairwise (le := fun a b => leS a.1 b.1 = true) (fun a b ha hb h1 h2 => ?_) pw sortK_pw ((sortK_perm.map g).trans sortK_perm.symm)).symm
  have ek := leS_anti h1 h2
  have ha' : a ∈ ws.map g := (sortK_perm.map g).mem_iff.mp ha
  have hb' : b ∈ ws.map g := sortK_perm.mem_iff.mp hb
  exact inj_of_nodup (f := fun w => w.1) (by rw [e]; exact nd) ha' hb' ek
theorem canon_map {ws : Ws} {g : Str × Int × Int → Str × Int × Int} (hg : ∀ w, (g w).1 = w.1) (hz : ∀ w ∈ ws, (g w).2.1 = 0 ↔ w.2.1 = 0) (nd : (ws.map fun w => w.1).Nodup) : canon (ws.map g) = (canon ws).map g := by
  unfold canon clean
  rw [sortK_map hg nd, List.filter_map]
  congr 1
  refine List.filter_congr fun w hw => ?_
  have := hz w (sortK_perm.mem_iff.mp hw)
  show decide ((g w).2.1 ≠ 0) = decide (w.2.1 ≠ 0)
  exact decide_eq_decide.mpr (not_congr this)
theorem canon_low {ws : Ws} (nd : (ws.map fun w => w.1).Nodup) (h : ∀ w ∈ ws, w.2.2 ≠ 0) : canon (mapLow ws) = mapLow (canon ws) := canon_map (fun _ => rfl) (fun w hw => low_zero (h w hw)) nd
theorem mapLow_id {ws : Ws} (h : LwA ws) : mapLow ws = ws := by
  unfold mapLow
  conv => rhs; rw [← List.map_id ws]
  refine List.map_congr_left fun w hw => ?_
  show (w.1, low w.2.1 w.2.2) = w
  rw [(h w hw).2]
theorem lwA_low {ws : Ws} (h : ∀ w ∈ ws, w.2.2 ≠ 0) : LwA (mapLow ws) := fun w hw => by
  obtain ⟨y, hy, rfl⟩ := List.mem_map.mp hw
  exact low_lw (h y hy)
theorem LwA.canon {ws : Ws} (h : LwA ws) : LwA (canon ws) := fun w hw => h w (canon_mem hw).1
/-- sorted, no weight 0 -/
def Cn (ws : Ws) : Prop := canon ws = ws ∧ (ws.map fun w => w.1).Nodup
theorem canon_idem {ws : Ws} (nd : (ws.map fun w => w.1).Nodup) : Cn (canon ws) := by
  refine ⟨?_, canon_nd nd⟩
  have pw : (canon ws).Pairwise fun a b => leS a.1 b.1 = true := (sortK_pw (f := fun w : Str × Int × Int => w.1) (l := ws)).sublist List.filter_sublist
  have e : sortK (fun w => w.1) (canon ws) = canon ws := by
    refine List.Perm.eq_of_pairwise (le := fun a b => leS a.1 b.1 = true) (fun a b ha hb h1 h2 => ?_) sortK_pw pw sortK_perm
    exact inj_of_nodup (canon_nd nd) (sortK_perm.mem_iff.mp ha) hb (leS_anti h1 h2)
  show clean (sortK (fun w => w.1) (canon ws)) = canon ws
  rw [e]
  unfold clean canon clean
  rw [List.filter_filter]
  refine List.filter_congr fun w _ => Bool.and_self _
theorem sortK_filter {ws : Ws} {p : Str × Int × Int → Bool} (nd : (ws.map fun w => w.1).Nodup) : (sortK (fun w => w.1) ws).filter p = sortK (fun w => w.1) (ws.filter p) := by
  have pw : ((sortK (fun w : Str × Int × Int => w.1) ws).filter p).Pairwise fun a b => leS a.1 b.1 = true := (sortK_pw (f := fun w : Str × Int × Int => w.1) (l := ws)).sublist List.filter_sublist
  have ndf : ((ws.filter p).map fun w => w.1).Nodup := nd.sublist (List.filter_sublist.map _)
  refine List.Perm.eq_of_pairwise (le := fun a b => leS a.1 b.1 = true) (fun a b ha hb h1 h2 => ?_) pw sortK_pw ((sortK_perm.filter p).trans sortK_perm.symm)
  exact inj_of_nodup (f := fun w : Str × Int × Int => w.1) ndf ((sortK_perm.filter p).mem_iff.mp ha) (sortK_perm.mem_iff.mp hb) (leS_anti h1 h2)
/-- a row: its constant under the empty name -/
abbrev row0 (c : Int × Int) (ws : Ws) : Ws := (Str.ofString "", c) :: ws
/-- what the law's own cleaning leaves of the sorted pairs -/
def keepB (w : Str × Int × Int) : Bool := !decide (w.1 = "") && !decide (w.2.1 = 0)
theorem keep_canon {c : Int × Int} {rest : Ws} (nd : ((row0 c rest).map fun w => w.1).Nodup) : (sortK (fun w => w.1) (row0 c rest)).filter keepB = canon rest := by
  rw [sortK_filter nd]
  have n2 : ((rest : Ws).map fun w => w.1).Nodup := by rw [List.map_cons, List.nodup_cons] at nd; exact nd.2
  have ne : ∀ w ∈ rest, w.1 ≠ "" := fun w hw e => by
    rw [List.map_cons, List.nodup_cons] at nd
    exact nd.1 (List.mem_map.mpr ⟨w, hw, e⟩)
  have e1 : (row0 c rest).filter keepB = rest.filter fun w => decide (w.2.1 ≠ 0) := by
    rw [List.filter_cons, if_neg (by unfold keepB; simp)]
    refine List.filter_congr fun w hw => ?_
    unfold keepB
    rw [decide_eq_false (ne w hw)]
    simp
  rw [e1]
  unfold canon clean
  rw [sortK_filter n2]
def sp_sumP : Sp := fun vs H Q _ => ∃ q1 q2 t b t2 b2, vs = [.ref q1, .ref q2] ∧ TupAt H q1 t b ∧ TupAt H q2 t2 b2 ∧ b ≠ 0 ∧ b2 ≠ 0 ∧ (Sz 1800 t ∧ Sz 1800 b ∧ Sz 1800 t2 ∧ Sz 1800 b2) ∧ ∀ c H', H c = none → Same H H' → TupAt H' c (sumA (t, b) (t2, b2)).1 (sumA (t, b) (t2, b2)).2 → Q (.ref c) H'
def sp_prdP : Sp := fun vs H Q _ => ∃ q1 q2 t b t2 b2, vs = [.ref q1, .ref q2] ∧ TupAt H q1 t b ∧ TupAt H q2 t2 b2 ∧ b ≠ 0 ∧ b2 ≠ 0 ∧ (Sz 1800 t ∧ Sz 1800 b ∧ Sz 1800 t2 ∧ Sz 1800 b2) ∧ ∀ c H', H c = none → Same H H' → TupAt H' c (low (t * t2) (b * b2)).1 (low (t * t2) (b * b2)).2 → Q (.ref c) H'
/-- numbers of at most n bits, bottoms that are not 0 -/
def NumA (n : Nat) (ws : Ws) : Prop := ∀ w ∈ ws, w.2.2 ≠ 0 ∧ Sz n w.2.1 ∧ Sz n w.2.2
def sp_clean : Sp := fun vs H Q _ => ∃ d, ∃ c : Int × Int, ∃ rest : Ws, vs = [.ref d] ∧ RowAt H d (row0 c rest) ∧ ((row0 c rest).map fun w => w.1).Nodup ∧ rest.length < 60 ∧ NumA 4000 (row0 c rest) ∧ ∀ p H', H p = none → Same H H' → RowAt H' p (row0 (low c.1 c.2) (mapLow (canon rest))) → Q (.ref p) H'
theorem mapLow_snoc {l : Ws} {i : Nat} {y : Str × Int × Int} (h : l[i]? = some y) : mapLow ((l.take (i + 1)).filter keepB) = mapLow ((l.take i).filter keepB) ++ (if keepB y = true then [(y.1, low y.2.1 y.2.2)] else []) := by
  rw [List.take_add_one, h, List.filter_append]
  unfold mapLow
  rw [List.map_append]
  by_cases e : keepB y = true <;> simp [e]
theorem use_mkN {K : PySem.W.Frag} {H : Hp} {R : Addr → Hp → Prop} {E : XK} {cv wv : V} {c : Int × Int} {ws : Ws} {vs : List V} (e : vs = [cv, wv]) (hc : AmtV K H cv c.1 c.2) (hw : WIn K H wv ws) (nd : (ws.map fun w => w.1).Nodup) (q : ∀ a H', Same H H' → H a = none → FrmAtN K H H' a c (canon ws) → R a H') :
    ∀ x dx, H x = none → H dx = none → dx ≠ x → sp_frm K (.ref x :: vs) (upd (upd H dx (.own x)) x (.ins (He.ga K "Form") dx [])) (fun v H2 => v = .non ∧ R x H2) E :=
  use_mkFN e hc hw fun a H' ws2 s ha pm srt hf => q a H' s ha (by rw [sortK_is pm nd srt] at hf; exact hf)

/-! ### Form.of, Form.symbol -/
section
variable {K : PySem.W.Frag} {mg : Str → Option Value}
theorem kb_Form_of_1_b_a2 (T : Tx K mg) : KwB K T.fd_Form_of ["cls", "constant", "weights"] ["b", "a2"] 2 [] := kwB_of (dvs := [.int 0]) T.F_Form_of 2 1 (by simp) (fun _ _ _ _ _ _ _ us its ws h1 h2 h3 => match us, its, ws, h1, h2, h3 with | [_, _], [_], [_, _], _, _, _ => ⟨_, rfl, rfl⟩)
theorem kb_Form_of_1 (T : Tx K mg) : KwB K T.fd_Form_of ["cls", "constant", "weights"] [] 2 [] := kwB_of (dvs := [.int 0]) T.F_Form_of 2 1 (by simp) (fun _ _ _ _ _ _ _ us its ws h1 h2 h3 => match us, its, ws, h1, h2, h3 with | [_, _], [_], [], _, _, _ => ⟨_, rfl, rfl⟩)
end
def sp_fofc (K : PySem.W.Frag) : Sp := fun vs H Q _ => ∃ cv d kvs ws, ∃ c : Int × Int, vs = [.ref (He.ga K "Form"), cv, .ref d] ∧ AmtV K H cv c.1 c.2 ∧ H d = some (.dK kvs) ∧ WsV K H kvs ws ∧ (∀ w ∈ ws, symB w.1 = true ∧ w.1.length ≤ sizeLine) ∧ (ws.map fun w => w.1).Nodup ∧ ws.length < 64 ∧
  ∀ a H', Same H H' → FrmAt K H' a c (canon ws) → Q (.ref a) H'
def sp_fsy (K : PySem.W.Frag) : Sp := fun vs H Q _ => ∃ z, vs = [.str z] ∧ symB z = true ∧ z.length ≤ sizeLine ∧ ∀ a H', Same H H' → FrmAt K H' a (0, 1) [(z, 1, 1)] → Q (.ref a) H'
theorem r_makeL {i : Nat} {C : Addr} {sp : Sp} {dvs : List V} {E : XK} {t : TA} {σ : L2.St} {H : Hp} {Q : VK} (h : σ[i]? = some (some (.ref C))) (q : t σ H fun vs H1 => ∀ x dx, H1 x = none → H1 dx = none → dx ≠ x → sp (.ref x :: (vs ++ dvs)) (upd (upd H1 dx (.own x)) x (.ins C dx [])) (fun v H2 => v = .non ∧ Q (.ref x) H2) E) : tMakeL i C sp dvs E t σ H Q := ⟨h, q⟩
theorem canon_one {z : Str} {u : Int × Int} (h : u.1 ≠ 0) : canon [(z, u)] = [(z, u)] := by
  unfold canon sortK clean
  rw [List.mergeSort_singleton, List.filter_cons, if_pos (by exact decide_eq_true h), List.filter_nil]
theorem r_disp {trs : List (TE × TE)} {σ : L2.St} {H : Hp} {Q : VK} (q : ∀ p H1, H p = none → Same H H1 → H1 p = some (.dK []) → (∀ b, b ≠ p → H1 b = H b) → tPairs trs σ H1 fun ps H2 => H2 p = some (.dK []) ∧ ∃ kvs : List (Key × V), ps = kvs.map (fun kv => (kV kv.1, kv.2)) ∧ kvs.length ≤ 15 ∧
    ∀ H3, H3 p = some (.dK (mergeK [] kvs)) → (∀ b, b ≠ p → H3 b = H2 b) → Q (.ref p) H3) : tDisp trs σ H Q := by
  intro p hp
  have z := q p _ hp (same_upd hp) upd_same (fun b hb => upd_ne hb)
  have e : (fun (ps : List (V × V)) (H2 : Hp) => H2 p = some (.dK []) ∧ ∃ kvs : List (Key × V), ps = kvs.map (fun kv => (kV kv.1, kv.2)) ∧ kvs.length ≤ 15 ∧ ∀ H3, H3 p = some (.dK (mergeK [] kvs)) → (∀ b, b ≠ p → H3 b = H2 b) → Q (.ref p) H3) =
      fun ps H2 => H2 p = some (.dK []) ∧ ∃ kvs : List (Key × V), ps = kvs.map (fun kv => (kV kv.1, kv.2)) ∧ kvs.length ≤ 15 ∧ Q (.ref p) (upd H2 p (.dK (mergeK [] kvs))) := by
    funext ps H2
    refine propext ⟨fun ⟨a, kvs, b, c, d⟩ => ⟨a, kvs, b, c, d _ upd_same fun b hb => upd_ne hb⟩, fun ⟨a, kvs, b, c, d⟩ => ⟨a, kvs, b, c, fun H3 e3 ne => ?_⟩⟩
    have : H3 = upd H2 p (.dK (mergeK [] kvs)) := by
      funext b
      by_cases hb : b = p
      · subst hb; rw [e3, upd_same]
      · rw [upd_ne hb, ne b hb]
    rw [this]; exact d
  rw [e] at z
  exact z
theorem r_pair {tk tv : TE} {r : List (TE × TE)} {σ : L2.St} {H : Hp} {Q : List (V × V) → Hp → Prop} (q : tk σ H fun x H1 => tv σ H1 fun y H2 => tPairs r σ H2 fun ps H3 => Q ((x, y) :: ps) H3) : tPairs ((tk, tv) :: r) σ H Q := q
theorem r_pair0 {σ : L2.St} {H : Hp} {Q : List (V × V) → Hp → Prop} (q : Q [] H) : tPairs [] σ H Q := q

section
variable {P : Program} {w : World} {K : PySem.W.Frag} {mg : Str → Option Value} {base : Heap}
theorem sc_Form_of : FnScope ["cls", "constant", "weights", "symbol"] ["cls", "constant", "weights"] (defScope s_Form_of) := ⟨rfl, rfl, rfl, by decide +kernel, rfl, by decide +kernel, by decide +kernel⟩
theorem ok_Form_of (T : Tx K mg) : FnB P w K mg base CX0 true 7 (wfn K "Form" "classmethod" "of") T.fd_Form_of ["cls", "constant", "weights"] (sp_fofc K) := by
  refine funB T.F_Form_of sc_Form_of (fun vs H Q E h => ?_) (fun cdv A outer s H vs Q E hr hg h => ?_)
  · obtain ⟨cv, d, kvs, ws, c, e, _⟩ := h; rw [e]; rfl
  · obtain ⟨cv, d, kvs, ws, c, rfl, hc, hd, hw, hs, nd, few, k⟩ := h
    refine ⟨_, (pss_cons (ps_expr (pg_call (ok_amount_of T) (hr.mono (by decide)) hg (by rfl) T.g_amount_of T.F_amount_of.kp T.b_amount_of .nil pass0 (pa_cons (pv 1) pa_nil)))
    (pss_cons (ps_for PassesOwn.never (by rfl) (pi_list (pe_callB (call_sortedD rfl) (by rfl) T.m_sorted (by decide +kernel) (pa_cons (pv 2) pa_nil))) (pg_name (i := 3) sc_Form_of.nd rfl (by first | exact Or.inl rfl | exact Or.inr rfl)) (pss_cons (ps_if (pt_not (pt_val (pg_call (ok_is_symbol T) (hr.mono (by decide)) hg (by rfl) T.g_is_symbol T.F_is_symbol.kp T.b_is_symbol .nil pass0 (pa_cons (pv 3) pa_nil)))) (pss_one ps_never) pss_nil)
    (pss_one (ps_expr (pg_call (ok_amount_of T) (hr.mono (by decide)) hg (by rfl) T.g_amount_of T.F_amount_of.kp T.b_amount_of .nil pass0 (pa_cons (pe_dget (Nat.lt_of_le_of_lt (Nat.add_le_add_left (by decide : 1 ≤ 64) _) hr.units) (pv 2) (pv 3) (fun _ _ => rfl)) pa_nil))))))
    (pss_one (ps_ret (pg_makeL (pv 0) T.k_Form (ok_FormU_initU T) (hr.mono (by decide)) hg T.b_FormU_initU .nil pass0 (pa_cons (pv 1) (pa_cons (pv 2) pa_nil))))))), ?_⟩
    walk_at "st"
    repeat walk_at "rd"
    refine use_of hc (fun ca H1 s1 _ => ?_)
    repeat walk_at "rd"
    refine ⟨d, kvs, ws.map fun w => w.1, rfl, .inl (s1 _ _ hd), hw.keys, by rw [List.length_map]; exact few, fun ys p pm srt hp => ?_⟩
    generalize e2 : upd H1 p (.lst (ys.map V.str)) = H2
    have s2 : Same H1 H2 := by rw [← e2]; exact same_upd hp
    have el : H2 p = some (.lst (ys.map V.str)) := by rw [← e2]; exact upd_same
    clear e2
    have hw2 := hw.same (s1.trans s2)
    have hd2 := (s1.trans s2) _ _ hd
    have ndk : (kvs.map (·.1)).Nodup := nodup_keys hw.keys nd
    refine q_itl el ?_
    refine u_list (xs := ys.map V.str) (fun i σ H' => ∃ x, σ = [some (V.ref (He.ga K "Form")), some cv, some (V.ref d), x] ∧ Same H2 H') ⟨_, rfl, fun _ _ e => e⟩ (fun i σ H' _ z => by obtain ⟨_, _, s⟩ := z; exact .inl (.inl (s _ _ el))) ?_ ?_
    · rintro i x σ H3 hx ⟨x0, rfl, s3⟩
      rw [List.getElem?_map] at hx
      obtain ⟨y, hy, rfl⟩ := Option.map_eq_some_iff.mp hx
      have hy2 : y ∈ ws.map fun w => w.1 := pm.mem_iff.mp (List.mem_of_getElem? hy)
      obtain ⟨wt, hwt, rfl⟩ := List.mem_map.mp hy2
      have hsy := hs wt hwt
      obtain ⟨v, ev, hv⟩ := hw2.val ndk wt hwt
      repeat walk_at "rd"
      refine use_sym hsy.2 hsy.1 ?_
      repeat walk_at "rd"
      refine ⟨d, v, rfl, .inl ⟨kvs, .inr wt.1, .inl (s3 _ _ hd2), rfl, ev.symm⟩, ?_⟩
      repeat walk_at "rd"
      refine use_of (hv.same s3) (fun a H4 s4 _ => ?_)
      exact ⟨_, rfl, s3.trans s4⟩
    · rintro σ H3 ⟨x0, rfl, s3⟩
      repeat walk_at "rd"
      refine r_makeL rfl ?_
      repeat walk_at "rd"
      have s13 := (s1.trans s2).trans s3
      refine use_mkC rfl (hc.same s13) (.inr ⟨d, kvs, rfl, s3 _ _ hd2, hw2.same s3, hs, ndk, ?_⟩) nd (fun a H' s _ hf => k a H' (s13.trans s) hf)
      have := congrArg List.length hw.keys
      rw [List.length_map, List.length_map, List.length_map] at this
      omega
theorem sc_Form_symbol : FnScope ["symbol"] ["symbol"] (defScope s_Form_symbol) := ⟨rfl, rfl, rfl, by decide +kernel, rfl, by decide +kernel, by decide +kernel⟩
theorem ok_Form_symbol (T : Tx K mg) : FnG P w K mg base CX0 true 7 (wfn K "Form" "staticmethod" "symbol") T.fd_Form_symbol ["symbol"] (sp_fsy K) := by
  refine funG T.F_Form_symbol sc_Form_symbol (fun vs H Q E h => ?_) (fun cdv A outer s H vs Q E hr hg h => ?_)
  · obtain ⟨z, e, _⟩ := h; rw [e]; rfl
  · obtain ⟨z, rfl, hz, zl, k⟩ := h
    refine ⟨_, (pss_cons (ps_if (pt_not (pt_val (pg_call (ok_is_symbol T) (hr.mono (by decide)) hg (by rfl) T.g_is_symbol T.F_is_symbol.kp T.b_is_symbol .nil pass0 (pa_cons (pv 0) pa_nil)))) (pss_one ps_never) pss_nil)
    (pss_one (ps_ret (pg_make T.k_Form (ok_FormU_initU T) (hr.mono (by decide)) hg (by rfl) T.g_Form T.b_FormU_initU .nil pass0 (pa_cons pe_int (pa_cons (pe_disp (pps_cons (pv 0) pe_int pps_nil) (by rfl) (by rfl) (fun h => nomatch h) (by decide)) pa_nil)))))), ?_⟩
    walk_at "st"
    repeat walk_at "rd"
    rw [hz]
    repeat walk_at "rd"
    refine r_disp (fun d H1 hd s1 e1 ne1 => ?_)
    refine r_pair ?_
    repeat walk_at "rd"
    refine r_pair0 ⟨e1, [(.inr z, .int 1)], rfl, by show 1 ≤ 15; decide, fun H3 e3 ne3 => ?_⟩
    have s3 : Same H H3 := same_put s1 hd ne3
    repeat walk_at "rd"
    have e3 : H3 d = some (.dK [(.inr z, .int 1)]) := e3
    refine use_mkC (c := (0, 1)) (ws := [(z, 1, 1)]) rfl (.inr ⟨rfl, rfl⟩) (.inr ⟨d, _, rfl, e3, .cons (.inr ⟨rfl, rfl⟩) .nil, fun w hw => ?_, by simp, by simp⟩) (by simp) (fun a H' s _ hf => k a H' (s3.trans s) ?_)
    · rw [List.mem_singleton.mp hw]; exact ⟨hz, zl⟩
    · rw [canon_one (by decide)] at hf; exact hf

end
theorem abs_nat (t : Int) : (if t < 0 then -t else t) = (t.natAbs : Int) := by split <;> omega
def sp_low : Sp := fun vs H Q _ => ∃ q t b, vs = [.ref q] ∧ TupAt H q t b ∧ b ≠ 0 ∧ Sz 4000 t ∧ Sz 4000 b ∧ ∀ c H', H c = none → Same H H' → TupAt H' c (low t b).1 (low t b).2 → Q (.ref c) H'
theorem use_low {H : Hp} {Q : VK} {E : XK} {q : Addr} {t b u d : Int} (h : TupAt H q t b) (hb : b ≠ 0) (z1 : Sz 4000 t) (z2 : Sz 4000 b) (e : low t b = (u, d)) (k : ∀ c H', H c = none → Same H H' → TupAt H' c u d → Q (.ref c) H') : sp_low ([.ref q] ++ []) H Q E :=
  ⟨q, t, b, rfl, h, hb, z1, z2, fun c H' hc s z => k c H' hc s (by rw [e] at z; exact z)⟩
theorem r_dec2 {P : Prop} [Decidable P] {ta tb : TE} {σ : L2.St} {H : Hp} {Q : VK} (z : V) (h1 : P → ∀ Q : VK, Q z H → ta σ H Q) (h2 : ¬ P → ∀ Q : VK, Q z H → tb σ H Q) (hq : Q z H) : if decide P = true then ta σ H Q else tb σ H Q := r_dec (fun e => h1 e Q hq) (fun e => h2 e Q hq)
theorem r_andQ {P : Prop} [Decidable P] {tb : TE} {σ : L2.St} {H : Hp} {Q : VK} (z : V) (h1 : P → ∀ Q : VK, Q z H → tb σ H Q) (h2 : ¬ P → z = .bl false) (hq : Q z H) : if decide P = true then tb σ H Q else Q (.bl false) H := r_dec (fun e => h1 e Q hq) (fun e => h2 e ▸ hq)

section
variable {P : Program} {w : World} {K : PySem.W.Frag} {mg : Str → Option Value} {base : Heap}
theorem sc_l_pot : FnScope ["_law_script", "_law_k", "_law_cell"] ["_law_script", "_law_k"] (defScope s_l_pot) := ⟨rfl, rfl, rfl, by decide +kernel, rfl, by decide +kernel, by decide +kernel⟩
theorem ok_l_pot (T : Tx K mg) : FnG P w K mg base CX0 true 1 (He.ga K "_law_pot") T.fd_l_pot ["_law_script", "_law_k"] (sp_pot K) := by
  refine funG T.F_l_pot sc_l_pot (fun vs H Q E h => ?_) (fun cdv A outer s H vs Q E hr hg h => ?_)
  · obtain ⟨a, ns, k, e, _⟩ := h; rw [e]; rfl
  · obtain ⟨a, ns, k, rfl, hs, h0, h1, q⟩ := h
    refine ⟨_, (pss_cons (ps_set (i := 2) sc_l_pot.nd rfl (by first | exact Or.inl rfl | exact Or.inr rfl) (pe_ifExp (pt_cmpR op_lt (pv 1) (pe_callB call_len_seq (by rfl) T.m_len (by decide +kernel) (pa_cons (pv 0) pa_nil)) (nomark _)) (pe_callB call_abs (by rfl) T.m_abs (by decide +kernel) (pa_cons (pe_ix (ix_listK (K' := K)) (pv 0) (pv 1) (fun _ _ => rfl)) pa_nil)) pe_int))
    (pss_one (ps_ret (pe_lst (pa_cons (pe_callB (call_max2 rfl) (by rfl) T.m_max (by decide +kernel) (pa_cons pe_int (pa_cons (pe_op op_sub (pv 2) (pe_op op_pow pe_int pe_int)) pa_nil))) (pa_cons (pe_op op_mod (pe_callTy call_int1 (by rfl) T.m_int (by decide +kernel) (pa_cons (pe_op op_add (pe_op op_add (pe_op op_mulW (pe_op op_mod (pe_callTy call_int1 (by rfl) T.m_int (by decide +kernel) (pa_cons (pv 2) pa_nil)) pe_int) pe_int) (pe_op op_mulW pe_int (pv 1))) pe_int) pa_nil)) pe_int) pa_nil)))))), ?_⟩
    walk_at "st"
    repeat walk_at "rd"
    refine q_len hs ?_
    repeat walk_at "rd"
    refine r_dec (fun e => ?_) (fun e => ?_)
    · repeat walk_at "rd"
      obtain ⟨j, rfl⟩ := Int.eq_ofNat_of_zero_le h0
      rw [List.length_map] at e
      refine r_ixL (v := .int (ns.getD j 0)) hs (atI_nat (by rw [List.getElem?_map, List.getD_eq_getElem?_getD, List.getElem?_eq_getElem (by omega)]; rfl)) ?_
      repeat walk_at "rd"
      refine r_new (by show 2 ≤ 100000; decide) (fun p H2 hp s e2 _ => ?_)
      exact q p H2 hp s ⟨_, _, e2, by omega, by omega⟩
    · repeat walk_at "rd"
      refine r_new (by show 2 ≤ 100000; decide) (fun p H2 hp s e2 _ => ?_)
      exact q p H2 hp s ⟨_, _, e2, by omega, by omega⟩
theorem sc_l_digit : FnScope ["_law_pot_here", "_law_many", "_law_digit_here"] ["_law_pot_here", "_law_many"] (defScope s_l_digit) := ⟨rfl, rfl, rfl, by decide +kernel, rfl, by decide +kernel, by decide +kernel⟩
theorem ok_l_digit (T : Tx K mg) : FnG P w K mg base CX0 true 1 (He.ga K "_law_digit") T.fd_l_digit ["_law_pot_here", "_law_many"] (sp_digit) := by
  refine funG T.F_l_digit sc_l_digit (fun vs H Q E h => ?_) (fun cdv A outer s H vs Q E hr hg h => ?_)
  · obtain ⟨p, m, e, _⟩ := h; rw [e]; rfl
  · obtain ⟨p, m, rfl, ⟨c0, c1, ep, z0, z1⟩, m0, m1, q⟩ := h
    refine ⟨_, (pss_cons (ps_if (pt_cmpR op_gt (pe_ix (ix_listK (K' := K)) (pv 0) pe_int (fun _ _ => rfl)) pe_int (nomark _)) (pss_cons (ps_asg (pe_callB call_divmod (by rfl) T.m_divmod (by decide +kernel) (pa_cons (pe_ix (ix_listK (K' := K)) (pv 0) pe_int (fun _ _ => rfl)) (pa_cons (pv 1) pa_nil))) (pg_tupK (K' := K) (n := 2) (by rfl) (pgs_cons (pg_sub (pv 0) pe_int set_list) (pgs_cons (pg_name (i := 2) sc_l_digit.nd rfl (by first | exact Or.inl rfl | exact Or.inr rfl)) pgs_nil))))
    (pss_one (ps_ret (pv 2)))) pss_nil)
    (pss_cons (ps_asg (pe_op op_mod (pe_callTy call_int1 (by rfl) T.m_int (by decide +kernel) (pa_cons (pe_op op_add (pe_op op_mulW (pe_ix (ix_listK (K' := K)) (pv 0) pe_int (fun _ _ => rfl)) pe_int) pe_int) pa_nil)) pe_int) (pg_sub (pv 0) pe_int set_list))
    (pss_one (ps_ret (pe_op op_mod (pe_callTy call_int1 (by rfl) T.m_int (by decide +kernel) (pa_cons (pe_op op_fdiv (pe_op op_mod (pe_callTy call_int1 (by rfl) T.m_int (by decide +kernel) (pa_cons (pe_op op_mulW (pe_ix (ix_listK (K' := K)) (pv 0) pe_int (fun _ _ => rfl)) (pe_ix (ix_listK (K' := K)) (pv 0) pe_int (fun _ _ => rfl))) pa_nil)) pe_int) pe_int) pa_nil)) (pv 1)))))), ?_⟩
    walk_at "st"
    repeat walk_at "rd"
    refine r_dec (fun e => ?_) (fun e => ?_)
    · repeat walk_at "rd"
      refine ⟨⟨m0, m1⟩, fun r hr0 => ?_⟩
      have np : p ≠ r := ne_of_none ep hr0
      refine r_gtup (.inl (.inl upd_same)) (by rfl) ?_
      repeat walk_at "rd"
      refine r_setL (by rw [upd_ne np]; exact ep) (by rfl) (fun H3 e3 ne3 => ?_)
      have e3 : H3 p = some (.lst [.int (c0 / m), .int c1]) := e3
      repeat walk_at "rd"
      refine q (c0 % m) _ (Int.emod_nonneg _ (by omega)) (Int.emod_lt_of_pos _ m0) ⟨c0 / m, c1, e3, z0, z1⟩ (fun b o hb eb => ?_)
      rw [ne3 b hb, upd_ne (ne_of_none eb hr0)]
      exact eb
    · repeat walk_at "rd"
      refine r_setL ep (by rfl) (fun H3 e3 ne3 => ?_)
      have e3 : H3 p = some (.lst [.int c0, .int ((c1 * 39373 + 12227) % 2147483629)]) := e3
      repeat walk_at "rd"
      refine q _ _ (Int.emod_nonneg _ (by omega)) (Int.emod_lt_of_pos _ m0) ⟨c0, _, e3, by omega, by omega⟩ (fun b o hb eb => ?_)
      rw [ne3 b hb]
      exact eb
theorem sc_l_pick : FnScope ["_law_pot_here", "_law_some"] ["_law_pot_here", "_law_some"] (defScope s_l_pick) := ⟨rfl, rfl, rfl, by decide +kernel, rfl, by decide +kernel, by decide +kernel⟩
theorem ok_l_pick (T : Tx K mg) : FnG P w K mg base CX0 true 2 (He.ga K "_law_pick") T.fd_l_pick ["_law_pot_here", "_law_some"] (sp_pick) := by
  refine funG T.F_l_pick sc_l_pick (fun vs H Q E h => ?_) (fun cdv A outer s H vs Q E hr hg h => ?_)
  · obtain ⟨p, l, xs, e, _⟩ := h; rw [e]; rfl
  · obtain ⟨p, l, xs, rfl, hp, hl, hn, h0, h1, q⟩ := h
    refine ⟨_, (pss_one (ps_ret (pe_ix (ix_listK (K' := K)) (pv 1) (pg_call (ok_l_digit T) (hr.mono (by decide)) hg (by rfl) T.g_l_digit T.F_l_digit.kp T.b_l_digit .nil pass0 (pa_cons (pv 0) (pa_cons (pe_callB call_len_seq (by rfl) T.m_len (by decide +kernel) (pa_cons (pv 1) pa_nil)) pa_nil))) (fun _ _ => rfl)))), ?_⟩
    have hx : 0 < xs.length := List.length_pos_iff.mpr h0
    walk_at "st"
    repeat walk_at "rd"
    refine use_digit hp (by omega) (by omega) (fun d H1 d0 d1 hp1 kp => ?_)
    have hl1 := kp l _ hn hl
    obtain ⟨j, rfl⟩ := Int.eq_ofNat_of_zero_le d0
    repeat walk_at "rd"
    refine r_ixL (.inl (.inl hl1)) (atI_nat (List.getElem?_eq_getElem (by omega))) ?_
    exact q _ _ (List.getElem_mem _) hp1 kp
theorem sc_l_whole : FnScope ["_law_pot_here", "_law_kind", "_law_number", "_law_turn"] ["_law_pot_here"] (defScope s_l_whole) := ⟨rfl, rfl, rfl, by decide +kernel, rfl, by decide +kernel, by decide +kernel⟩
theorem ok_l_whole (T : Tx K mg) : FnG P w K mg base CX0 true 3 (He.ga K "_law_whole") T.fd_l_whole ["_law_pot_here"] (sp_draw) := by
  refine funG T.F_l_whole sc_l_whole (fun vs H Q E h => ?_) (fun cdv A outer s H vs Q E hr hg h => ?_)
  · obtain ⟨p, e, _⟩ := h; rw [e]; rfl
  · obtain ⟨p, rfl, hp, q⟩ := h
    refine ⟨_, (pss_cons (ps_set (i := 1) sc_l_whole.nd rfl (by first | exact Or.inl rfl | exact Or.inr rfl) (pg_call (ok_l_digit T) (hr.mono (by decide)) hg (by rfl) T.g_l_digit T.F_l_digit.kp T.b_l_digit .nil pass0 (pa_cons (pv 0) (pa_cons pe_int pa_nil))))
    (pss_cons (ps_if (pt_cmpR op_lt (pv 1) pe_int (nomark _)) (pss_one (ps_ret (pe_op op_sub (pg_call (ok_l_digit T) (hr.mono (by decide)) hg (by rfl) T.g_l_digit T.F_l_digit.kp T.b_l_digit .nil pass0 (pa_cons (pv 0) (pa_cons pe_int pa_nil))) pe_int))) pss_nil)
    (pss_cons (ps_if (pt_cmpR op_eq (pv 1) pe_int (nomark _)) (pss_one (ps_ret (pe_op op_sub (pg_call (ok_l_digit T) (hr.mono (by decide)) hg (by rfl) T.g_l_digit T.F_l_digit.kp T.b_l_digit .nil pass0 (pa_cons (pv 0) (pa_cons pe_int pa_nil))) pe_int))) pss_nil)
    (pss_cons (ps_set (i := 2) sc_l_whole.nd rfl (by first | exact Or.inl rfl | exact Or.inr rfl) pe_int)
    (pss_cons (ps_for PassesOwn.never (by rfl) (pi_range1 (by rfl) T.m_range (pa_cons (pe_op op_add pe_int (pg_call (ok_l_digit T) (hr.mono (by decide)) hg (by rfl) T.g_l_digit T.F_l_digit.kp T.b_l_digit .nil pass0 (pa_cons (pv 0) (pa_cons pe_int pa_nil)))) pa_nil)) (pg_name (i := 3) sc_l_whole.nd rfl (by first | exact Or.inl rfl | exact Or.inr rfl)) (pss_one (ps_set (i := 2) sc_l_whole.nd rfl (by first | exact Or.inl rfl | exact Or.inr rfl) (pe_op op_add (pe_op op_mulW (pv 2) pe_int) (pg_call (ok_l_digit T) (hr.mono (by decide)) hg (by rfl) T.g_l_digit T.F_l_digit.kp T.b_l_digit .nil pass0 (pa_cons (pv 0) (pa_cons pe_int pa_nil)))))))
    (pss_one (ps_ret (pe_op op_mulW (pv 2) (pg_call (ok_l_pick T) (hr.mono (by decide)) hg (by rfl) T.g_l_pick T.F_l_pick.kp T.b_l_pick .nil pass0 (pa_cons (pv 0) (pa_cons (pe_lst (pa_cons pe_int (pa_cons (pe_un un_neg pe_int) pa_nil))) pa_nil))))))))))), ?_⟩
    walk_at "st"
    repeat walk_at "rd"
    refine use_digit hp (by omega) (by omega) (fun d H1 d0 d1 hp1 k1 => ?_)
    repeat walk_at "rd"
    refine r_dec (fun e => ?_) (fun e => ?_)
    · repeat walk_at "rd"
      refine use_digit hp1 (by omega) (by omega) (fun d2 H2 d20 d21 hp2 k2 => ?_)
      repeat walk_at "rd"
      exact q _ H2 (by unfold Sz; omega) hp2 (k1.trans k2)
    · repeat walk_at "rd"
      refine r_dec (fun e2 => ?_) (fun e2 => ?_)
      · repeat walk_at "rd"
        refine use_digit hp1 (by omega) (by omega) (fun d2 H2 d20 d21 hp2 k2 => ?_)
        repeat walk_at "rd"
        exact q _ H2 (by unfold Sz; omega) hp2 (k1.trans k2)
      · repeat walk_at "rd"
        refine use_digit hp1 (by omega) (by omega) (fun d5 H5 d50 d51 hp5 k5 => ?_)
        repeat walk_at "rd"
        refine ⟨by omega, by omega, ?_⟩
        refine u_range (fun i σ H2 => ∃ N x, σ = [some (V.ref p), some (.int d), some (.int N), x] ∧ 0 ≤ N ∧ N < ((100003 ^ i : Nat) : Int) ∧ PotAt H2 p ∧ KeepBut p H H2) ⟨0, _, rfl, by decide, by decide, hp5, k1.trans k5⟩ ?_ ?_
        · rintro i σ H3 hi ⟨N, x, rfl, n0, n1, hp3, k3⟩
          repeat walk_at "rd"
          have le : ((100003 ^ i : Nat) : Int) ≤ ((100003 ^ 5 : Nat) : Int) := Int.ofNat_le.mpr (Nat.pow_le_pow_right (by decide) (by omega))
          have sN : Sz 85 N := by
            have h2 : ((100003 ^ 5 : Nat) : Int) < ((2 ^ 85 : Nat) : Int) := by decide +kernel
            unfold Sz
            omega
          refine r_I (Sz.cm (b := 17) sN (by unfold Sz; decide) (by decide) (by decide) (by decide)) ?_
          repeat walk_at "rd"
          refine use_digit hp3 (by omega) (by omega) (fun d6 H6 d60 d61 hp6 k6 => ?_)
          repeat walk_at "rd"
          refine ⟨_, _, rfl, by omega, ?_, hp6, k3.trans k6⟩
          rw [Nat.pow_succ, Int.natCast_mul]
          generalize ((100003 ^ i : Nat) : Int) = X at *
          omega
        · rintro σ H3 ⟨N, x, rfl, n0, n1, hp3, k3⟩
          repeat walk_at "rd"
          have le : ((100003 ^ (1 + d5).toNat : Nat) : Int) ≤ ((100003 ^ 5 : Nat) : Int) := Int.ofNat_le.mpr (Nat.pow_le_pow_right (by decide) (by omega))
          have sN : Sz 85 N := by
            have h2 : ((100003 ^ 5 : Nat) : Int) < ((2 ^ 85 : Nat) : Int) := by decide +kernel
            unfold Sz
            omega
          refine r_new (by show 2 ≤ 100000; decide) (fun l H4 hl s4 e4 _ => ?_)
          repeat walk_at "rd"
          refine use_pick (hp3.same s4) e4 (fun e => by
            obtain ⟨c0, c1, z, _⟩ := hp3
            rw [← e, hl] at z
            cases z) (by simp) (by simp) (fun v H6 hv hp6 k6 => ?_)
          have kk : KeepBut p H H6 := (k3.trans (KeepBut.of s4)).trans k6
          rcases List.mem_cons.mp hv with rfl | hv
          · refine r_I (Sz.cm (b := 2) sN (by unfold Sz; decide) (by decide) (by decide) (by decide)) ?_
            exact q _ _ ((sN.mul (b := 2) (by unfold Sz; decide)).mono (by decide)) hp6 kk
          · obtain rfl := List.mem_singleton.mp hv
            refine r_I (Sz.cm (b := 2) sN (by unfold Sz; decide) (by decide) (by decide) (by decide)) ?_
            exact q _ _ ((sN.mul (b := 2) (by unfold Sz; decide)).mono (by decide)) hp6 kk
theorem sc_l_pair : FnScope ["_law_pot_here", "_law_low"] ["_law_pot_here"] (defScope s_l_pair) := ⟨rfl, rfl, rfl, by decide +kernel, rfl, by decide +kernel, by decide +kernel⟩
theorem ok_l_pair (T : Tx K mg) : FnG P w K mg base CX0 true 4 (He.ga K "_law_pair") T.fd_l_pair ["_law_pot_here"] (sp_pair) := by
  refine funG T.F_l_pair sc_l_pair (fun vs H Q E h => ?_) (fun cdv A outer s H vs Q E hr hg h => ?_)
  · obtain ⟨p, e, _⟩ := h; rw [e]; rfl
  · obtain ⟨p, rfl, hp, q⟩ := h
    refine ⟨_, (pss_cons (ps_set (i := 1) sc_l_pair.nd rfl (by first | exact Or.inl rfl | exact Or.inr rfl) (pg_call (ok_l_whole T) (hr.mono (by decide)) hg (by rfl) T.g_l_whole T.F_l_whole.kp T.b_l_whole .nil pass0 (pa_cons (pv 0) pa_nil)))
    (pss_one (ps_ret (pe_tup (pa_cons (pg_call (ok_l_whole T) (hr.mono (by decide)) hg (by rfl) T.g_l_whole T.F_l_whole.kp T.b_l_whole .nil pass0 (pa_cons (pv 0) pa_nil)) (pa_cons (pe_ifExp (pt_cmpR op_ne (pv 1) pe_int (nomark _)) (pv 1) (pe_op op_add pe_int (pg_call (ok_l_digit T) (hr.mono (by decide)) hg (by rfl) T.g_l_digit T.F_l_digit.kp T.b_l_digit .nil pass0 (pa_cons (pv 0) (pa_cons pe_int pa_nil))))) pa_nil)))))), ?_⟩
    walk_at "st"
    repeat walk_at "rd"
    refine use_draw hp (fun b H1 zb hp1 k1 => ?_)
    repeat walk_at "rd"
    refine use_draw hp1 (fun t H2 zt hp2 k2 => ?_)
    repeat walk_at "rd"
    refine r_ndec (fun e => ?_) (fun e => ?_)
    · repeat walk_at "rd"
      refine r_new (by show 2 ≤ 100000; decide) (fun c H3 hc s e3 _ => ?_)
      exact q c t b H3 zt zb e ((k1.trans k2).none hp2 hc) e3 (hp2.same s) ((k1.trans k2).trans (KeepBut.of s))
    · repeat walk_at "rd"
      refine use_digit hp2 (by omega) (by omega) (fun d H3 d0 d1 hp3 k3 => ?_)
      repeat walk_at "rd"
      refine r_new (by show 2 ≤ 100000; decide) (fun c H4 hc s e4 _ => ?_)
      exact q c t _ H4 zt (by unfold Sz; omega) (by omega) (((k1.trans k2).trans k3).none hp3 hc) e4 (hp3.same s) (((k1.trans k2).trans k3).trans (KeepBut.of s))

theorem sc_l_lowest : FnScope ["_law_pair_here", "_law_one", "_law_rest"] ["_law_pair_here"] (defScope s_l_lowest) := ⟨rfl, rfl, rfl, by decide +kernel, rfl, by decide +kernel, by decide +kernel⟩
theorem ok_l_lowest (T : Tx K mg) : FnG P w K mg base CX0 true 1 (He.ga K "_law_lowest") T.fd_l_lowest ["_law_pair_here"] (sp_low) := by
  refine funG T.F_l_lowest sc_l_lowest (fun vs H Q E h => ?_) (fun cdv A outer s H vs Q E hr hg h => ?_)
  · obtain ⟨q, t, b, e, _⟩ := h; rw [e]; rfl
  · obtain ⟨q, t, b, rfl, hq, hb, z1, z2, k⟩ := h
    refine ⟨_, (pss_cons (ps_par (i := 1) (j := 2) (by rfl) sc_l_lowest.nd rfl rfl (by decide) rfl rfl (pa_cons (pe_callB call_abs (by rfl) T.m_abs (by decide +kernel) (pa_cons (pe_ix (ix_tupK (K' := K)) (pv 0) pe_int (fun _ _ => rfl)) pa_nil)) (pa_cons (pe_callB call_abs (by rfl) T.m_abs (by decide +kernel) (pa_cons (pe_ix (ix_tupK (K' := K)) (pv 0) pe_int (fun _ _ => rfl)) pa_nil)) pa_nil)) (by rfl))
    (pss_cons (ps_while PassesOwn.never (pt_cmpR op_ne (pv 2) pe_int (nomark _)) (pss_one (ps_par (i := 1) (j := 2) (by rfl) sc_l_lowest.nd rfl rfl (by decide) rfl rfl (pa_cons (pv 2) (pa_cons (pe_op op_mod (pe_callTy call_int1 (by rfl) T.m_int (by decide +kernel) (pa_cons (pv 1) pa_nil)) (pv 2)) pa_nil)) (by rfl))))
    (pss_cons (ps_if (pt_cmpR op_lt (pe_ix (ix_tupK (K' := K)) (pv 0) pe_int (fun _ _ => rfl)) pe_int (nomark _)) (pss_one (ps_set (i := 1) sc_l_lowest.nd rfl (by first | exact Or.inl rfl | exact Or.inr rfl) (pe_un un_neg (pv 1)))) pss_nil)
    (pss_one (ps_ret (pe_tup (pa_cons (pe_op op_fdivS (pe_ix (ix_tupK (K' := K)) (pv 0) pe_int (fun _ _ => rfl)) (pv 1)) (pa_cons (pe_op op_fdivS (pe_ix (ix_tupK (K' := K)) (pv 0) pe_int (fun _ _ => rfl)) (pv 1)) pa_nil)))))))), ?_⟩
    unfold TupAt at hq
    walk_at "st"
    repeat walk_at "rd"
    rw [abs_nat, abs_nat]
    refine r_while ⟨fun m σ H' => ∃ x y : Nat, σ = [some (V.ref q), some (.int x), some (.int y)] ∧ Nat.gcd x y = Nat.gcd t.natAbs b.natAbs ∧ m = y ∧ H' = H, ⟨_, _, _, rfl, rfl, rfl, rfl⟩, ?_⟩
    rintro m σ H' ⟨x, y, rfl, hxy, rfl, rfl⟩
    repeat walk_at "rd"
    refine r_ndec (fun e => ⟨fun σ' H'' => ∃ m', m' < m ∧ ∃ x y : Nat, σ' = [some (V.ref q), some (.int x), some (.int y)] ∧ Nat.gcd x y = Nat.gcd t.natAbs b.natAbs ∧ m' = y ∧ H'' = H', fun _ _ z => z, ?_⟩) (fun e => ?_)
    · repeat walk_at "rd"
      have hy : 0 < m := by omega
      refine ⟨x % m, Nat.mod_lt _ hy, m, x % m, rfl, ?_, rfl, rfl⟩
      rw [← hxy, Nat.gcd_comm x m, Nat.gcd_comm m (x % m)]
      exact (Nat.gcd_rec m x).symm
    · have e0 : m = 0 := by omega
      subst e0
      rw [Nat.gcd_zero_right] at hxy
      subst hxy
      have gz : 0 < Nat.gcd t.natAbs b.natAbs := Nat.gcd_pos_of_pos_right _ (by omega)
      have gs : Sz 4000 ((Nat.gcd t.natAbs b.natAbs : Nat) : Int) := z2.le (by
        have := Nat.le_of_dvd (by omega) (Nat.gcd_dvd_right t.natAbs b.natAbs)
        simpa using this)
      have gn := gs.neg
      repeat walk_at "rd"
      refine r_dec (fun hneg => ?_) (fun hneg => ?_)
      · repeat walk_at "rd"
        refine r_I ⟨by omega, gn.log (by decide) (by decide)⟩ ?_
        repeat walk_at "rd"
        refine r_I ⟨by omega, gn.log (by decide) (by decide)⟩ ?_
        repeat walk_at "rd"
        refine r_new (by show 2 ≤ 100000; decide) (fun c H2 hc s e2 _ => k c H2 hc s ?_)
        unfold TupAt low gd
        rw [if_pos hneg]
        exact e2
      · repeat walk_at "rd"
        refine r_I ⟨by omega, gs.log (by decide) (by decide)⟩ ?_
        repeat walk_at "rd"
        refine r_I ⟨by omega, gs.log (by decide) (by decide)⟩ ?_
        repeat walk_at "rd"
        refine r_new (by show 2 ≤ 100000; decide) (fun c H2 hc s e2 _ => k c H2 hc s ?_)
        unfold TupAt low gd
        rw [if_neg hneg]
        exact e2

theorem sc_l_sum : FnScope ["_law_pair_here", "_law_other"] ["_law_pair_here", "_law_other"] (defScope s_l_sum) := ⟨rfl, rfl, rfl, by decide +kernel, rfl, by decide +kernel, by decide +kernel⟩
theorem ok_l_sum (T : Tx K mg) : FnG P w K mg base CX0 true 2 (He.ga K "_law_sum") T.fd_l_sum ["_law_pair_here", "_law_other"] (sp_sumP) := by
  refine funG T.F_l_sum sc_l_sum (fun vs H Q E h => ?_) (fun cdv A outer s H vs Q E hr hg h => ?_)
  · obtain ⟨q1, q2, t, b, t2, b2, e, _⟩ := h; rw [e]; rfl
  · obtain ⟨q1, q2, t, b, t2, b2, rfl, h1, h2, b0, b20, ⟨z1, z2, z3, z4⟩, k⟩ := h
    refine ⟨_, (pss_one (ps_ret (pg_call (ok_l_lowest T) (hr.mono (by decide)) hg (by rfl) T.g_l_lowest T.F_l_lowest.kp T.b_l_lowest .nil pass0 (pa_cons (pe_tup (pa_cons (pe_op op_add (pe_op op_mulW (pe_ix (ix_tupK (K' := K)) (pv 0) pe_int (fun _ _ => rfl)) (pe_ix (ix_tupK (K' := K)) (pv 1) pe_int (fun _ _ => rfl))) (pe_op op_mulW (pe_ix (ix_tupK (K' := K)) (pv 1) pe_int (fun _ _ => rfl)) (pe_ix (ix_tupK (K' := K)) (pv 0) pe_int (fun _ _ => rfl)))) (pa_cons (pe_op op_mulW (pe_ix (ix_tupK (K' := K)) (pv 0) pe_int (fun _ _ => rfl)) (pe_ix (ix_tupK (K' := K)) (pv 1) pe_int (fun _ _ => rfl))) pa_nil))) pa_nil)))), ?_⟩
    have g1 := h1
    have g2 := h2
    unfold TupAt at g1 g2
    have y1 := z1.mul z4
    have y2 := z3.mul z2
    have y3 := z2.mul z4
    walk_at "st"
    repeat walk_at "rd"
    refine r_I (Sz.cm z1 z4 (by decide) (by decide) (by decide)) ?_
    repeat walk_at "rd"
    refine r_I (Sz.cm z3 z2 (by decide) (by decide) (by decide)) ?_
    repeat walk_at "rd"
    refine r_I (Sz.cm z2 z4 (by decide) (by decide) (by decide)) ?_
    repeat walk_at "rd"
    refine r_new (by show 2 ≤ 100000; decide) (fun p H1 hp s1 e1 _ => ?_)
    exact ⟨p, _, _, rfl, e1, Int.mul_ne_zero b0 b20, (y1.add y2).mono (by decide), y3.mono (by decide), fun c H2 hc s2 h => k c H2 (same_none s1 hc) (s1.trans s2) h⟩
theorem sc_l_product : FnScope ["_law_pair_here", "_law_other"] ["_law_pair_here", "_law_other"] (defScope s_l_product) := ⟨rfl, rfl, rfl, by decide +kernel, rfl, by decide +kernel, by decide +kernel⟩
theorem ok_l_product (T : Tx K mg) : FnG P w K mg base CX0 true 2 (He.ga K "_law_product") T.fd_l_product ["_law_pair_here", "_law_other"] (sp_prdP) := by
  refine funG T.F_l_product sc_l_product (fun vs H Q E h => ?_) (fun cdv A outer s H vs Q E hr hg h => ?_)
  · obtain ⟨q1, q2, t, b, t2, b2, e, _⟩ := h; rw [e]; rfl
  · obtain ⟨q1, q2, t, b, t2, b2, rfl, h1, h2, b0, b20, ⟨z1, z2, z3, z4⟩, k⟩ := h
    refine ⟨_, (pss_one (ps_ret (pg_call (ok_l_lowest T) (hr.mono (by decide)) hg (by rfl) T.g_l_lowest T.F_l_lowest.kp T.b_l_lowest .nil pass0 (pa_cons (pe_tup (pa_cons (pe_op op_mulW (pe_ix (ix_tupK (K' := K)) (pv 0) pe_int (fun _ _ => rfl)) (pe_ix (ix_tupK (K' := K)) (pv 1) pe_int (fun _ _ => rfl))) (pa_cons (pe_op op_mulW (pe_ix (ix_tupK (K' := K)) (pv 0) pe_int (fun _ _ => rfl)) (pe_ix (ix_tupK (K' := K)) (pv 1) pe_int (fun _ _ => rfl))) pa_nil))) pa_nil)))), ?_⟩
    have g1 := h1
    have g2 := h2
    unfold TupAt at g1 g2
    have y1 := z1.mul z3
    have y3 := z2.mul z4
    walk_at "st"
    repeat walk_at "rd"
    refine r_I (Sz.cm z1 z3 (by decide) (by decide) (by decide)) ?_
    repeat walk_at "rd"
    refine r_I (Sz.cm z2 z4 (by decide) (by decide) (by decide)) ?_
    repeat walk_at "rd"
    refine r_new (by show 2 ≤ 100000; decide) (fun p H1 hp s1 e1 _ => ?_)
    exact ⟨p, _, _, rfl, e1, Int.mul_ne_zero b0 b20, y1.mono (by decide), y3.mono (by decide), fun c H2 hc s2 h => k c H2 (same_none s1 hc) (s1.trans s2) h⟩
theorem sc_l_clean : FnScope ["_law_row", "_law_found", "_law_sign"] ["_law_row"] (defScope s_l_clean) := ⟨rfl, rfl, rfl, by decide +kernel, rfl, by decide +kernel, by decide +kernel⟩
theorem ok_l_clean (T : Tx K mg) : FnG P w K mg base CX0 true 2 (He.ga K "_law_clean") T.fd_l_clean ["_law_row"] (sp_clean) := by
  refine funG T.F_l_clean sc_l_clean (fun vs H Q E h => ?_) (fun cdv A outer s H vs Q E hr hg h => ?_)
  · obtain ⟨d, c, rest, e, _⟩ := h; rw [e]; rfl
  · obtain ⟨d, c, rest, rfl, ⟨kvs, hd, hp⟩, nd, few, num, k⟩ := h
    refine ⟨_, (pss_cons (ps_set (i := 1) sc_l_clean.nd rfl (by first | exact Or.inl rfl | exact Or.inr rfl) (pe_disp (pps_cons pe_str (pg_call (ok_l_lowest T) (hr.mono (by decide)) hg (by rfl) T.g_l_lowest T.F_l_lowest.kp T.b_l_lowest .nil pass0 (pa_cons (pe_dget (Nat.lt_of_le_of_lt (Nat.add_le_add_left (by decide : 1 ≤ 64) _) hr.units) (pv 0) pe_str (fun _ _ => rfl)) pa_nil)) pps_nil) (by rfl) (by rfl) (fun h => nomatch h) (by decide)))
    (pss_cons (ps_for PassesOwn.never (by rfl) (pi_list (pe_callB (call_sortedD rfl) (by rfl) T.m_sorted (by decide +kernel) (pa_cons (pv 0) pa_nil))) (pg_name (i := 2) sc_l_clean.nd rfl (by first | exact Or.inl rfl | exact Or.inr rfl)) (pss_one (ps_if (PW.pt (pw_and (pt_cmpR op_ne (pv 2) pe_str (nomark _)) (pw_and1 (pt_cmpR op_ne (pe_ix (ix_tupK (K' := K)) (pe_dget (Nat.lt_of_le_of_lt (Nat.add_le_add_left (by decide : 1 ≤ 64) _) hr.units) (pv 0) (pv 2) (fun _ _ => rfl)) pe_int (fun _ _ => rfl)) pe_int (nomark _))))) (pss_one (ps_dput (Nat.lt_of_le_of_lt (Nat.add_le_add_left (by decide : 1 ≤ 64) _) hr.units) (pv 1) (pv 2) (pg_call (ok_l_lowest T) (hr.mono (by decide)) hg (by rfl) T.g_l_lowest T.F_l_lowest.kp T.b_l_lowest .nil pass0 (pa_cons (pe_dget (Nat.lt_of_le_of_lt (Nat.add_le_add_left (by decide : 1 ≤ 64) _) hr.units) (pv 0) (pv 2) (fun _ _ => rfl)) pa_nil)) (by rfl))) pss_nil)))
    (pss_one (ps_ret (pv 1))))), ?_⟩
    have ndk : (kvs.map (·.1)).Nodup := nodup_keys hp.keysI nd
    have get : ∀ w ∈ row0 c rest, ∃ q, valV kvs (.inr w.1) = some (.ref q) ∧ TupAt H q w.2.1 w.2.2 := fun w hw => by
      rcases hp.get (z := w.1) with ⟨_, _, h⟩ | ⟨q, e1, h⟩
      · exact absurd (List.mem_map.mpr ⟨w, hw, rfl⟩) h
      · rw [wsGet_of nd hw] at h
        exact ⟨q, e1, h⟩
    walk_at "st"
    repeat walk_at "rd"
    refine r_disp (fun p H1 hp1 s1 e1 ne1 => ?_)
    refine r_pair ?_
    repeat walk_at "rd"
    obtain ⟨q0, v0, h0⟩ := get _ List.mem_cons_self
    have n0 := num _ List.mem_cons_self
    refine ⟨d, _, rfl, .inl ⟨kvs, .inr "", .inl (s1 _ _ hd), rfl, v0.symm⟩, ?_⟩
    repeat walk_at "rd"
    refine ⟨q0, _, _, rfl, h0.same s1, n0.1, n0.2.1, n0.2.2, fun u0 H2 hu0 s2 t0 => ?_⟩
    refine r_pair0 ⟨s2 _ _ e1, [(.inr "", .ref u0)], rfl, by show 1 ≤ 15; decide, fun H3 e3 ne3 => ?_⟩
    have e3 : H3 p = some (.dK [(.inr "", .ref u0)]) := e3
    have s3 : Same H H3 := same_put (s1.trans s2) hp1 ne3
    have t3 : TupAt H3 u0 (low c.1 c.2).1 (low c.1 c.2).2 := t0.off (s2 _ _ e1) ne3
    clear s2 ne3 e1 ne1 hu0 t0
    repeat walk_at "rd"
    refine ⟨d, kvs, (row0 c rest).map fun w => w.1, rfl, .inl (s3 _ _ hd), hp.keysI, by rw [List.length_map, List.length_cons]; omega, fun ys l pm srt hl => ?_⟩
    obtain ⟨es, pe, rfl⟩ := perm_lift pm (row0 c rest) rfl
    have ees := sortK_is pe nd srt
    generalize e4 : upd H3 l (.lst ((es.map fun w => w.1).map V.str)) = H4
    have s4 : Same H3 H4 := by rw [← e4]; exact same_upd hl
    have el : H4 l = some (.lst ((es.map fun w => w.1).map V.str)) := by rw [← e4]; exact upd_same
    clear e4
    have nlp : l ≠ p := fun z => by rw [z, e3] at hl; cases hl
    refine q_itl el ?_
    refine u_list (xs := (es.map fun w => w.1).map V.str) (fun i σ H' => ∃ x fk, σ = [some (V.ref d), some (V.ref p), x] ∧ H' p = some (.dK fk) ∧ PsAt H' fk (row0 (low c.1 c.2) (mapLow ((es.take i).filter keepB))) ∧ Same H H' ∧ H' l = some (.lst ((es.map fun w => w.1).map V.str)))
      ⟨_, _, rfl, s4 _ _ e3, .cons (t3.same s4) .nil, s3.trans s4, el⟩ (fun i σ H' _ z => by obtain ⟨_, _, _, _, _, _, z⟩ := z; exact .inl (.inl z)) ?_ ?_
    · rintro i x σ H5 hx ⟨x0, fk, rfl, e5, p5, s5, l5⟩
      rw [List.getElem?_map, List.getElem?_map] at hx
      obtain ⟨y1, hy1, rfl⟩ := Option.map_eq_some_iff.mp hx
      obtain ⟨y, hy, rfl⟩ := Option.map_eq_some_iff.mp hy1
      have hym : y ∈ row0 c rest := pe.mem_iff.mp (List.mem_of_getElem? hy)
      obtain ⟨q, vq, hq⟩ := get y hym
      have nq := num y hym
      have hq5 := hq.same s5
      have g5 := hq5
      unfold TupAt at g5
      have skip : keepB y = false → ∃ x fk', [some (V.ref d), some (V.ref p), some (V.str y.1)] = [some (V.ref d), some (V.ref p), x] ∧ H5 p = some (.dK fk') ∧ PsAt H5 fk' (row0 (low c.1 c.2) (mapLow ((es.take (i + 1)).filter keepB))) ∧ Same H H5 ∧ H5 l = some (.lst ((es.map fun w => w.1).map V.str)) := fun kb =>
        ⟨_, fk, rfl, e5, by rw [mapLow_snoc hy, kb, if_neg Bool.false_ne_true, List.append_nil]; exact p5, s5, l5⟩
      repeat walk_at "rd"
      refine r_ndec (fun en => ?_) (fun en => ?_)
      · repeat walk_at "rd"
        refine ⟨d, _, rfl, .inl ⟨kvs, .inr y.1, .inl (s5 _ _ hd), rfl, vq.symm⟩, ?_⟩
        repeat walk_at "rd"
        refine r_ndec (fun ez => ?_) (fun ez => ?_)
        · have kb : keepB y = true := by unfold keepB; rw [decide_eq_false en, decide_eq_false ez]; rfl
          refine r_dput ?_
          repeat walk_at "rd"
          refine ⟨d, _, rfl, .inl ⟨kvs, .inr y.1, .inl (s5 _ _ hd), rfl, vq.symm⟩, ?_⟩
          repeat walk_at "rd"
          refine ⟨q, _, _, rfl, hq5, nq.1, nq.2.1, nq.2.2, fun u H6 hu s6 t6 => ?_⟩
          repeat walk_at "rd"
          have e6 := s6 _ _ e5
          have pl := p5.length
          have hil : i < es.length := (List.getElem?_eq_some_iff.mp hy).1
          have lf : (mapLow ((es.take i).filter keepB)).length ≤ i := by
            unfold mapLow
            rw [List.length_map]
            exact Nat.le_trans (List.length_filter_le ..) (List.length_take_le ..)
          have lr : es.length = rest.length + 1 := pe.length_eq
          rw [List.length_cons] at pl
          refine ⟨p, _, rfl, .inl ⟨fk, .inr y.1, e6, rfl, Nat.lt_of_lt_of_le (by omega : fk.length < 100) (by decide), rfl⟩, ?_⟩
          have nk : ∀ kv ∈ fk, kv.1 ≠ .inr y.1 := fun kv m e => by
            have m1 : kv.1 ∈ fk.map fun x => x.1 := List.mem_map.mpr ⟨kv, m, rfl⟩
            rw [p5.keysI, e] at m1
            obtain ⟨z, hz, ez2⟩ := List.mem_map.mp m1
            have ez2 : z = y.1 := Sum.inr.inj ez2
            subst ez2
            rw [List.map_cons, List.mem_cons] at hz
            rcases hz with hz | hz
            · exact en hz
            · unfold mapLow at hz
              rw [List.map_map] at hz
              obtain ⟨w, hw, ew⟩ := List.mem_map.mp hz
              have nde : (es.map fun w => w.1).Nodup := pm.nodup_iff.mpr nd
              exact take_new nde hy (List.mem_map.mpr ⟨w, (List.mem_filter.mp hw).1, ew⟩)
          rw [LL.putK_new nk]
          refine ⟨_, _, rfl, upd_same, ?_, same_put (s5.trans s6) hp1 (fun b hb => upd_ne hb), by rw [upd_ne nlp]; exact s6 _ _ l5⟩
          rw [mapLow_snoc hy, kb, if_pos rfl]
          exact ((p5.same s6).mono fun a t b h => h.off e6 (fun b hb => upd_ne hb)).snoc (t6.off e6 (fun b hb => upd_ne hb))
        · repeat walk_at "rd"
          exact skip (by unfold keepB; rw [decide_eq_true ez]; simp)
      · repeat walk_at "rd"
        exact skip (by unfold keepB; rw [decide_eq_true en]; simp)
    · rintro σ H5 ⟨x0, fk, rfl, e5, p5, s5, l5⟩
      repeat walk_at "rd"
      rw [List.length_map, List.length_map, List.take_length, ees, keep_canon nd] at p5
      exact k p H5 hp1 s5 ⟨fk, e5, p5⟩

end
/-! ### rows drawn, forms made of them -/
def names7 : List Str := ["b", "a", "3.1", "a.b", "z9", "ab", "0.c"]
theorem names7_ok : ∀ z ∈ names7, symB z = true ∧ z.length ≤ sizeLine ∧ z ≠ "" := by decide +kernel
theorem names7_nd : names7.Nodup := by decide +kernel
/-- a row as it is drawn -/
structure Drawn (c : Int × Int) (rest : Ws) (n : Nat) : Prop where
  nd : (rest.map fun w => w.1).Nodup
  sym : ∀ w ∈ rest, w.1 ∈ names7
  few : rest.length ≤ n
  num : NumA 90 (row0 c rest)
theorem Drawn.nd0 {c : Int × Int} {rest : Ws} {n : Nat} (h : Drawn c rest n) : ((row0 c rest).map fun w => w.1).Nodup := by
  rw [List.map_cons, List.nodup_cons]
  refine ⟨fun m => ?_, h.nd⟩
  obtain ⟨w, hw, e⟩ := List.mem_map.mp m
  exact (names7_ok _ (h.sym w hw)).2.2 e
def sp_drawn : Sp := fun vs H Q _ => ∃ p, vs = [.ref p] ∧ PotAt H p ∧ ∀ d c rest H', H d = none → RowAt H' d (row0 c rest) → Drawn c rest 5 → PotAt H' p → KeepBut p H H' → Q (.ref d) H'
theorem merge_app : ∀ {more kvs : List (Key × V)}, ((kvs ++ more).map (·.1)).Nodup → mergeK kvs more = kvs ++ more
  | [], kvs, _ => by rw [List.append_nil]; rfl
  | y :: r, kvs, h => by
    have ny : ∀ kv ∈ kvs, kv.1 ≠ y.1 := fun kv m e => by
      rw [List.map_append, List.nodup_append] at h
      exact h.2.2 _ (List.mem_map.mpr ⟨kv, m, rfl⟩) _ (List.mem_map.mpr ⟨y, List.mem_cons_self, rfl⟩) e
    show mergeK (putK kvs y.1 y.2) r = _
    rw [LL.putK_new ny, merge_app (by rw [List.append_assoc]; exact h), List.append_assoc]
    rfl
theorem merge_nil {kvs : List (Key × V)} (h : (kvs.map (·.1)).Nodup) : mergeK [] kvs = kvs := merge_app h
theorem RowAt.keep {p d : Addr} {H H' : Hp} {ws : Ws} (h : RowAt H d ws) (k : KeepBut p H H') (hp : PotAt H p) : RowAt H' d ws := by
  obtain ⟨kvs, e, r⟩ := h
  refine ⟨kvs, k d _ (fun z => ?_) e, r.mono fun a t b x => x.keep k hp⟩
  obtain ⟨c0, c1, ep, _⟩ := hp
  rw [z, ep] at e
  cases e
theorem PotAt.offD {p D : Addr} {H H' : Hp} (h : PotAt H p) (n : D ≠ p) (ne : ∀ b, b ≠ D → H' b = H b) : PotAt H' p := by
  obtain ⟨c0, c1, e, z⟩ := h
  exact ⟨c0, c1, by rw [ne p n.symm]; exact e, z⟩
theorem PotAt.neqD {p D : Addr} {H : Hp} (h : PotAt H p) (n : H D = none) : D ≠ p := by
  rintro rfl
  obtain ⟨c0, c1, e, _⟩ := h
  rw [n] at e
  cases e
theorem KeepBut.new {p D : Addr} {H H1 H2 : Hp} (k : KeepBut p H H1) (hD : H D = Option.none) (ne : ∀ b, b ≠ D → H2 b = H1 b) : KeepBut p H H2 := fun b o hb e => by rw [ne b (ne_of_none e hD)]; exact k b o hb e
theorem sq_idx {i n : Nat} (h1 : i < n) : seqIndex? (i : Int) n = some i := by
  unfold seqIndex?
  simp
  omega
theorem not_mem_erase : ∀ {l : List Str} {j : Nat} (nd : l.Nodup) (hj : j < l.length), l[j] ∉ l.eraseIdx j
  | a :: l, 0, nd, hj => by
    rw [List.nodup_cons] at nd
    exact nd.1
  | a :: l, j + 1, nd, hj => by
    rw [List.nodup_cons] at nd
    show l[j]'(by simpa using hj) ∉ a :: l.eraseIdx j
    rw [List.mem_cons, not_or]
    refine ⟨fun e => nd.1 (e ▸ List.getElem_mem _), not_mem_erase nd.2 (by simpa using hj)⟩
theorem erase_map {α β : Type} (f : α → β) : ∀ (l : List α) (j : Nat), (l.map f).eraseIdx j = (l.eraseIdx j).map f
  | [], _ => rfl
  | _ :: _, 0 => rfl
  | a :: l, j + 1 => by
    show f a :: (l.map f).eraseIdx j = f a :: (l.eraseIdx j).map f
    rw [erase_map f l j]

section
variable {P : Program} {w : World} {K : PySem.W.Frag} {mg : Str → Option Value} {base : Heap}
theorem sc_l_drawn : FnScope ["_law_pot_here", "_law_names", "_law_row", "_law_turn", "_law_name"] ["_law_pot_here"] (defScope s_l_drawn) := ⟨rfl, rfl, rfl, by decide +kernel, rfl, by decide +kernel, by decide +kernel⟩
theorem ok_l_drawn (T : Tx K mg) : FnG P w K mg base CX0 true 5 (He.ga K "_law_drawn") T.fd_l_drawn ["_law_pot_here"] (sp_drawn) := by
  refine funG T.F_l_drawn sc_l_drawn (fun vs H Q E h => ?_) (fun cdv A outer s H vs Q E hr hg h => ?_)
  · obtain ⟨p, e, _⟩ := h; rw [e]; rfl
  · obtain ⟨p, rfl, hp, k⟩ := h
    refine ⟨_, (pss_cons (ps_par (i := 1) (j := 2) (by rfl) sc_l_drawn.nd rfl rfl (by decide) rfl rfl (pa_cons (pe_lst (pa_cons pe_str (pa_cons pe_str (pa_cons pe_str (pa_cons pe_str (pa_cons pe_str (pa_cons pe_str (pa_cons pe_str pa_nil)))))))) (pa_cons (pe_disp (pps_cons pe_str (pg_call (ok_l_pair T) (hr.mono (by decide)) hg (by rfl) T.g_l_pair T.F_l_pair.kp T.b_l_pair .nil pass0 (pa_cons (pv 0) pa_nil)) pps_nil) (by rfl) (by rfl) (fun h => nomatch h) (by decide)) pa_nil)) (by rfl))
    (pss_cons (ps_for PassesOwn.never (by rfl) (pi_range1 (by rfl) T.m_range (pa_cons (pg_call (ok_l_digit T) (hr.mono (by decide)) hg (by rfl) T.g_l_digit T.F_l_digit.kp T.b_l_digit .nil pass0 (pa_cons (pv 0) (pa_cons pe_int pa_nil))) pa_nil)) (pg_name (i := 3) sc_l_drawn.nd rfl (by first | exact Or.inl rfl | exact Or.inr rfl)) (pss_cons (ps_set (i := 4) sc_l_drawn.nd rfl (by first | exact Or.inl rfl | exact Or.inr rfl) (pe_bm PySem.F.plainAttrs_list PySem.F.slot_list_pop PySem.F.type_list_pop mt_popAt (pv 1) (pa_cons (pg_call (ok_l_digit T) (hr.mono (by decide)) hg (by rfl) T.g_l_digit T.F_l_digit.kp T.b_l_digit .nil pass0 (pa_cons (pv 0) (pa_cons (pe_callB call_len_seq (by rfl) T.m_len (by decide +kernel) (pa_cons (pv 1) pa_nil)) pa_nil))) pa_nil)))
    (pss_one (ps_dput (Nat.lt_of_le_of_lt (Nat.add_le_add_left (by decide : 1 ≤ 64) _) hr.units) (pv 2) (pv 4) (pe_ifExp (pt_cmpR op_gt (pg_call (ok_l_digit T) (hr.mono (by decide)) hg (by rfl) T.g_l_digit T.F_l_digit.kp T.b_l_digit .nil pass0 (pa_cons (pv 0) (pa_cons pe_int pa_nil))) pe_int (nomark _)) (pg_call (ok_l_pair T) (hr.mono (by decide)) hg (by rfl) T.g_l_pair T.F_l_pair.kp T.b_l_pair .nil pass0 (pa_cons (pv 0) pa_nil)) (pg_call (ok_l_pick T) (hr.mono (by decide)) hg (by rfl) T.g_l_pick T.F_l_pick.kp T.b_l_pick .nil pass0 (pa_cons (pv 0) (pa_cons (pe_lst (pa_cons (pe_tup (pa_cons pe_int (pa_cons pe_int pa_nil))) (pa_cons (pe_tup (pa_cons pe_int (pa_cons pe_int pa_nil))) (pa_cons (pe_tup (pa_cons (pe_un un_neg pe_int) (pa_cons pe_int pa_nil))) pa_nil)))) pa_nil)))) (by rfl)))))
    (pss_one (ps_ret (pv 2))))), ?_⟩
    walk_at "st"
    repeat walk_at "rd"
    refine r_new (by show 7 ≤ 100000; decide) (fun nl H1 hnl s1 e1 _ => ?_)
    repeat walk_at "rd"
    refine r_disp (fun d H2 hd s2 e2 ne2 => ?_)
    refine r_pair ?_
    repeat walk_at "rd"
    have hp2 := (hp.same s1).same s2
    have ndp : d ≠ p := (hp.same s1).neqD hd
    have nnl : nl ≠ d := ne_of_none e1 hd
    refine use_pair hp2 (fun q t b H3 tz bz b0 hq tq hp3 k3 => ?_)
    refine r_pair0 ⟨k3 d _ ndp e2, [(.inr "", .ref q)], rfl, by show 1 ≤ 15; decide, fun H4 e4 ne4 => ?_⟩
    have e4 : H4 d = some (.dK [(.inr "", .ref q)]) := e4
    have tq4 : TupAt H4 q t b := tq.off (k3 d _ ndp e2) ne4
    have hp4 := hp3.offD ndp ne4
    have nlp : nl ≠ p := (hp.neqD hnl)
    have e14 : H4 nl = some (.lst (names7.map V.str)) := by rw [ne4 nl nnl]; exact k3 nl _ nlp (s2 _ _ e1)
    have hd0 : H d = none := same_none s1 hd
    have k4 : KeepBut p H H4 := ((KeepBut.of (s1.trans s2)).trans k3).new hd0 ne4
    clear ne4 k3 e2 ne2 hq
    repeat walk_at "rd"
    refine use_digit hp4 (by omega) (by omega) (fun m H5 m0 m1 hp5 k5 => ?_)
    have e45 : RowAt H4 d (row0 (t, b) []) := ⟨_, e4, .cons tq4 .nil⟩
    repeat walk_at "rd"
    refine ⟨by omega, by omega, ?_⟩
    refine u_range (fun i σ H' => ∃ x3 x4, ∃ ns : List Str, ∃ rest : Ws, σ = [some (V.ref p), some (V.ref nl), some (V.ref d), x3, x4] ∧ H' nl = some (.lst (ns.map V.str)) ∧ ns.length + i = 7 ∧ ns.Nodup ∧ (∀ z ∈ ns, z ∈ names7 ∧ z ∉ rest.map fun w => w.1) ∧ RowAt H' d (row0 (t, b) rest) ∧ Drawn (t, b) rest i ∧ PotAt H' p ∧ KeepBut p H H')
      ⟨_, _, names7, [], rfl, k5 nl _ nlp e14, rfl, names7_nd, fun z hz => ⟨hz, by simp⟩, e45.keep k5 hp4, ⟨by simp, by simp, Nat.le_refl _, fun w hw => by
        rw [List.mem_singleton.mp hw]; exact ⟨b0, tz, bz⟩⟩, hp5, k4.trans k5⟩ ?_ ?_
    · rintro i σ H6 hi ⟨x3, x4, ns, rest, rfl, e6, hl, hnd, hns, row, dr, hp6, k6⟩
      have hi : i < 5 := by omega
      have nl7 : (ns.map V.str).length = ns.length := List.length_map ..
      repeat walk_at "rd"
      refine use_digit hp6 (by rw [nl7]; omega) (by rw [nl7]; omega) (fun j H7 j0 j1 hp7 k7 => ?_)
      obtain ⟨j, rfl⟩ := Int.eq_ofNat_of_zero_le j0
      have hj : j < ns.length := by omega
      have e7 := k7 nl _ nlp e6
      have row7 := row.keep k7 hp6
      have k67 := k6.trans k7
      repeat walk_at "rd"
      refine ⟨nl, _, _, j, .str ns[j], rfl, rfl, e7, by omega, by omega, sq_idx (by rw [nl7]; exact hj), by simp [hj], ?_⟩
      generalize e8' : upd H7 nl (.lst ((ns.map V.str).eraseIdx j)) = H8
      have e8 : H8 nl = some (.lst ((ns.eraseIdx j).map V.str)) := by rw [← e8', upd_same, erase_map]
      have ne8 : ∀ b, b ≠ nl → H8 b = H7 b := fun b hb => by rw [← e8', upd_ne hb]
      clear e8'
      have hp8 := hp7.offD nlp ne8
      have row8 : RowAt H8 d (row0 (t, b) rest) := by
        obtain ⟨kvs, ek, r⟩ := row7
        refine ⟨kvs, by rw [ne8 d nnl.symm]; exact ek, r.mono fun a t b h => ?_⟩
        unfold TupAt at h ⊢
        rw [ne8 a (fun z => by rw [z, e7] at h; cases h)]
        exact h
      have k8 : KeepBut p H H8 := k67.new hnl ne8
      have hzn := hns ns[j] (List.getElem_mem hj)
      have go : ∀ (q : Addr) (u v : Int) (H9 : Hp), Sz 90 u → Sz 90 v → v ≠ 0 → TupAt H9 q u v → PotAt H9 p → KeepBut p H8 H9 → ∃ a H10, V.ref d = V.ref a ∧ DPut H9 a (V.str ns[j]) (V.ref q) H10 ∧
          ∃ x3 x4, ∃ ns' : List Str, ∃ rest' : Ws, [some (V.ref p), some (V.ref nl), some (V.ref d), some (V.int i), some (V.str ns[j])] = [some (V.ref p), some (V.ref nl), some (V.ref d), x3, x4] ∧ H10 nl = some (.lst (ns'.map V.str)) ∧ ns'.length + (i + 1) = 7 ∧ ns'.Nodup ∧ (∀ z ∈ ns', z ∈ names7 ∧ z ∉ rest'.map fun w => w.1) ∧ RowAt H10 d (row0 (t, b) rest') ∧ Drawn (t, b) rest' (i + 1) ∧ PotAt H10 p ∧ KeepBut p H H10 := fun q u v H9 uz vz v0 tq9 hp9 k9 => by
        obtain ⟨kvs, ek, r⟩ := row8.keep k9 hp8
        have pl := r.length
        have df := dr.few
        rw [List.length_cons] at pl
        have nk : ∀ kv ∈ kvs, kv.1 ≠ .inr ns[j] := fun kv m e => by
          have m1 : kv.1 ∈ kvs.map fun x => x.1 := List.mem_map.mpr ⟨kv, m, rfl⟩
          rw [r.keysI, e] at m1
          obtain ⟨z, hz, ez⟩ := List.mem_map.mp m1
          have ez : z = ns[j] := Sum.inr.inj ez
          subst ez
          rw [List.map_cons, List.mem_cons] at hz
          rcases hz with hz | hz
          · exact (names7_ok _ hzn.1).2.2 hz
          · exact hzn.2 hz
        refine ⟨d, _, rfl, .inl ⟨kvs, .inr ns[j], ek, rfl, Nat.lt_of_lt_of_le (by omega : kvs.length < 100) (by decide), rfl⟩, ?_⟩
        rw [LL.putK_new nk]
        refine ⟨_, _, ns.eraseIdx j, rest ++ [(ns[j], u, v)], rfl, by rw [upd_ne nnl]; exact k9 nl _ nlp e8, by rw [List.length_eraseIdx_of_lt hj]; omega, hnd.sublist (List.eraseIdx_sublist ..), fun z hz => ?_, ⟨_, upd_same, ?_⟩, ⟨?_, ?_, ?_, ?_⟩, hp9.offD ndp (fun b hb => upd_ne hb), (k8.trans k9).new hd0 (fun b hb => upd_ne hb)⟩
        · have hz2 : z ∈ ns := List.mem_of_mem_eraseIdx hz
          refine ⟨(hns z hz2).1, ?_⟩
          rw [List.map_append, List.mem_append, not_or]
          refine ⟨(hns z hz2).2, fun m => ?_⟩
          have ez : z = ns[j] := by simpa using m
          rw [ez] at hz
          exact not_mem_erase hnd hj hz
        · exact ((r.mono fun a t b h => h.off ek (fun b hb => upd_ne hb)).snoc (tq9.off ek (fun b hb => upd_ne hb)))
        · rw [List.map_append, List.nodup_append]
          refine ⟨dr.nd, by simp, fun x hx y hy e => ?_⟩
          have hy : y = ns[j] := by simpa using hy
          rw [e, hy] at hx
          exact hzn.2 hx
        · intro w hw
          rcases List.mem_append.mp hw with m | m
          · exact dr.sym w m
          · rw [List.mem_singleton.mp m]; exact hzn.1
        · rw [List.length_append]; show _ + 1 ≤ _; omega
        · intro w hw
          rcases List.mem_cons.mp hw with rfl | m
          · exact ⟨b0, tz, bz⟩
          · rcases List.mem_append.mp m with m | m
            · exact dr.num w (List.mem_cons_of_mem _ m)
            · rw [List.mem_singleton.mp m]; exact ⟨v0, uz, vz⟩
      repeat walk_at "rd"
      refine r_dput ?_
      repeat walk_at "rd"
      refine use_digit hp8 (by omega) (by omega) (fun y H9 y0 y1 hp9 k9 => ?_)
      repeat walk_at "rd"
      refine r_dec (fun e => ?_) (fun e => ?_)
      · repeat walk_at "rd"
        refine use_pair hp9 (fun q u v H10 uz vz v0 hq tq10 hp10 k10 => ?_)
        repeat walk_at "rd"
        exact go q u v H10 uz vz v0 tq10 hp10 (k9.trans k10)
      · repeat walk_at "rd"
        refine r_new (by show 2 ≤ 100000; decide) (fun t1 G1 ht1 sg1 eg1 _ => ?_)
        repeat walk_at "rd"
        refine r_new (by show 2 ≤ 100000; decide) (fun t2 G2 ht2 sg2 eg2 _ => ?_)
        repeat walk_at "rd"
        refine r_new (by show 2 ≤ 100000; decide) (fun t3 G3 ht3 sg3 eg3 _ => ?_)
        repeat walk_at "rd"
        refine r_new (by show 3 ≤ 100000; decide) (fun l4 G4 hl4 sg4 eg4 _ => ?_)
        repeat walk_at "rd"
        have hpg := (((hp9.same sg1).same sg2).same sg3)
        refine use_pick (hpg.same sg4) eg4 (hpg.neqD hl4) (by simp) (by simp) (fun x G5 hx hp10 k10 => ?_)
        have kk : KeepBut p H8 G5 := (k9.trans (.of (((sg1.trans sg2).trans sg3).trans sg4))).trans k10
        have hpg4 := hpg.same sg4
        have o1 : TupAt G4 t1 0 1 := sg4 _ _ (sg3 _ _ (sg2 _ _ eg1))
        have o2 : TupAt G4 t2 1 1 := sg4 _ _ (sg3 _ _ eg2)
        have o3 : TupAt G4 t3 (-1) 1 := sg4 _ _ eg3
        repeat walk_at "rd"
        simp only [List.mem_cons, List.not_mem_nil, or_false] at hx
        rcases hx with rfl | rfl | rfl
        · exact go t1 0 1 G5 (by unfold Sz; decide) (by unfold Sz; decide) (by decide) (o1.keep k10 hpg4) hp10 kk
        · exact go t2 1 1 G5 (by unfold Sz; decide) (by unfold Sz; decide) (by decide) (o2.keep k10 hpg4) hp10 kk
        · exact go t3 (-1) 1 G5 (by unfold Sz; decide) (by unfold Sz; decide) (by decide) (o3.keep k10 hpg4) hp10 kk
    · rintro σ H6 ⟨x3, x4, ns, rest, rfl, e6, hl, hnd, hns, row, dr, hp6, k6⟩
      repeat walk_at "rd"
      exact k d (t, b) rest H6 hd0 row ⟨dr.nd, dr.sym, Nat.le_trans dr.few (by omega), dr.num⟩ hp6 k6

end
def sp_lform (K : PySem.W.Frag) : Sp := fun vs H Q _ => ∃ d w, ∃ c : Int × Int, ∃ rest : Ws, vs = [.ref d, .bl w] ∧ RowAt H d (row0 c rest) ∧ Drawn c rest 5 ∧ ∀ a H', Same H H' → FrmAt K H' a (low c.1 c.2) (canon (mapLow rest)) → Q (.ref a) H'
theorem WsV.snoc {K : PySem.W.Frag} {H : Hp} {z : Str} {v : V} {t b : Int} {kvs : List (Key × V)} {ws : Ws} (h : WsV K H kvs ws) (ha : AmtV K H v t b) : WsV K H (kvs ++ [(.inr z, v)]) (ws ++ [(z, t, b)]) := by
  induction h with
  | nil => exact .cons ha .nil
  | cons x _ ih => exact .cons x ih
theorem put_mid {pre post : List (Key × V)} {k : Key} {v u : V} (nd : ((pre ++ (k, v) :: post).map (·.1)).Nodup) : putK (pre ++ (k, v) :: post) k u = pre ++ (k, u) :: post := by
  rw [List.map_append, List.map_cons, List.nodup_append, List.nodup_cons] at nd
  have same : ∀ l : List (Key × V), k ∉ l.map (·.1) → l.map (fun kv => if kv.1 = k then (kv.1, u) else kv) = l := fun l h => by
    conv => rhs; rw [← List.map_id l]
    refine List.map_congr_left fun kv m => ?_
    rw [if_neg (fun e => h (List.mem_map.mpr ⟨kv, m, e⟩))]
    rfl
  unfold putK
  rw [if_pos (by rw [List.any_append, List.any_cons]; simp), List.map_append, List.map_cons, if_pos rfl, same pre (fun m => nd.2.2 _ m _ List.mem_cons_self rfl), same post nd.2.1.1]

theorem pair_app {α β : Type} {R : α → β → Prop} : ∀ {as : List α} {bs : List β} {a : α} {b : β}, Paired R as bs → R a b → Paired R (as ++ [a]) (bs ++ [b])
  | _, _, _, _, .nil, h => .cons h .nil
  | _, _, _, _, .cons x r, h => .cons x (pair_app r h)
section
variable {P : Program} {w : World} {K : PySem.W.Frag} {mg : Str → Option Value} {base : Heap}
theorem sc_l_form : FnScope ["_law_row", "_law_has_whole", "_law_parts", "_law_name", "_law_pair_here", "_law_form_here"] ["_law_row", "_law_has_whole"] (defScope s_l_form) := ⟨rfl, rfl, rfl, by decide +kernel, rfl, by decide +kernel, by decide +kernel⟩
theorem ok_l_form (T : Tx K mg) : FnG P w K mg base CX0 true 7 (He.ga K "_law_form") T.fd_l_form ["_law_row", "_law_has_whole"] (sp_lform K) := by
  refine funG T.F_l_form sc_l_form (fun vs H Q E h => ?_) (fun cdv A outer s H vs Q E hr hg h => ?_)
  · obtain ⟨d, w, c, rest, e, _⟩ := h; rw [e]; rfl
  · obtain ⟨d, w, c, rest, rfl, ⟨kvs, hd, hp⟩, dr, k⟩ := h
    refine ⟨_, (pss_cons (ps_set (i := 2) sc_l_form.nd rfl (by first | exact Or.inl rfl | exact Or.inr rfl) (pe_callTy (call_dictP rfl) (by rfl) T.m_dict (by decide +kernel) (pa_cons (pe_lock (pe_lc (own := [("_law_name", 3), ("_law_pair_here", 4)]) (by rfl) sc_l_form.nd (pi_items (pv 0)) (blkOk_by (own := [("_law_name", 3), ("_law_pair_here", 4)]) (N := ["_law_row", "_law_has_whole", "_law_parts", "_law_name", "_law_pair_here", "_law_form_here"]) (sc := defScope s_l_form) (by decide +kernel)) (fun _ _ _ _ _ => (pg_tupK (K' := K) (n := 2) (by rfl) (pgs_cons (pg_name (i := 3) sc_l_form.nd rfl (by first | exact Or.inl rfl | exact Or.inr rfl)) (pgs_cons (pg_name (i := 4) sc_l_form.nd rfl (by first | exact Or.inl rfl | exact Or.inr rfl)) pgs_nil)))) (fun _ _ _ _ _ => (pts_one (pt_cmpR op_ne (pv 3) pe_str (nomark _)))) (fun _ _ _ _ _ => (pe_tup (pa_cons (pv 3) (pa_cons (pg_make T.k_Amount (ok_AmountU_initU T) (hr.mono (by decide)) hg (by rfl) T.g_Amount T.b_AmountU_initU .nil pass0 (pa_cons (pe_ix (ix_tupK (K' := K)) (pv 4) pe_int (fun _ _ => rfl)) (pa_cons (pe_ix (ix_tupK (K' := K)) (pv 4) pe_int (fun _ _ => rfl)) pa_nil))) pa_nil)))))) pa_nil)))
    (pss_cons (ps_for PassesOwn.never (by rfl) (pi_list (pe_callTy (call_listD rfl) (by rfl) T.m_list (by decide +kernel) (pa_cons (pv 2) pa_nil))) (pg_name (i := 3) sc_l_form.nd rfl (by first | exact Or.inl rfl | exact Or.inr rfl)) (pss_one (ps_if (PW.pt (pw_and (pt_val (pv 1)) (pw_and1 (pt_cmpR op_eq (pg_prop (pe_dget (Nat.lt_of_le_of_lt (Nat.add_le_add_left (by decide : 1 ≤ 64) _) hr.units) (pv 2) (pv 3) (fun _ _ => rfl)) T.c_Amount T.p_Amount_bottom (ok_Amount_bottom T) (hr.mono (by decide)) hg T.b_Amount_bottom .nil pass0 rfl) pe_int (nomark _))))) (pss_one (ps_dput (Nat.lt_of_le_of_lt (Nat.add_le_add_left (by decide : 1 ≤ 64) _) hr.units) (pv 2) (pv 3) (pg_prop (pe_dget (Nat.lt_of_le_of_lt (Nat.add_le_add_left (by decide : 1 ≤ 64) _) hr.units) (pv 2) (pv 3) (fun _ _ => rfl)) T.c_Amount T.p_Amount_top (ok_Amount_top T) (hr.mono (by decide)) hg T.b_Amount_top .nil pass0 rfl) (by rfl))) pss_nil)))
    (pss_cons (ps_set (i := 5) sc_l_form.nd rfl (by first | exact Or.inl rfl | exact Or.inr rfl) (pg_make T.k_Form (ok_FormU_initU T) (hr.mono (by decide)) hg (by rfl) T.g_Form T.b_FormU_initU .nil pass0 (pa_cons (pg_make T.k_Amount (ok_AmountU_initU T) (hr.mono (by decide)) hg (by rfl) T.g_Amount T.b_AmountU_initU .nil pass0 (pa_cons (pe_ix (ix_tupK (K' := K)) (pe_dget (Nat.lt_of_le_of_lt (Nat.add_le_add_left (by decide : 1 ≤ 64) _) hr.units) (pv 0) pe_str (fun _ _ => rfl)) pe_int (fun _ _ => rfl)) (pa_cons (pe_ix (ix_tupK (K' := K)) (pe_dget (Nat.lt_of_le_of_lt (Nat.add_le_add_left (by decide : 1 ≤ 64) _) hr.units) (pv 0) pe_str (fun _ _ => rfl)) pe_int (fun _ _ => rfl)) pa_nil))) (pa_cons (pv 2) pa_nil))))
    (pss_cons (ps_dput (Nat.lt_of_le_of_lt (Nat.add_le_add_left (by decide : 1 ≤ 64) _) hr.units) (pv 2) pe_str (pg_make T.k_Amount (ok_AmountU_initU T) (hr.mono (by decide)) hg (by rfl) T.g_Amount T.b_AmountU_initU_1.choose_spec.2 T.b_AmountU_initU_1.choose_spec.1 pass0 (pa_cons pe_int pa_nil)) (by rfl))
    (pss_one (ps_ret (pv 5))))))), ?_⟩
    have nd0 := dr.nd0
    have ndk : (kvs.map (·.1)).Nodup := nodup_keys hp.keysI nd0
    have ne : ∀ w ∈ rest, w.1 ≠ "" := fun w hw => (names7_ok _ (dr.sym w hw)).2.2
    have kl := hp.length
    rw [List.length_cons] at kl
    walk_at "st"
    repeat walk_at "rd"
    refine r_lockE hd trivial (fun od H1 e1 ne1 => ?_)
    repeat walk_at "rd"
    refine r_items ?_
    repeat walk_at "rd"
    have up : ∀ {b o}, H b = some o → b ≠ d → H1 b = some o := fun {b o} e hb => by rw [ne1 b hb]; exact e
    refine ⟨d, od, kvs, rfl, e1, u_lcI (fun D H2 hD s2 e2 _ => ⟨fun i H' => ∃ ps : List Addr, ∃ akvs, H' D = some (.lst (ps.map V.ref)) ∧ Paired (fun p (kv : Key × V) => H' p = some (.tup [kV kv.1, kv.2])) ps akvs ∧ WsAt K H' akvs (mapLow (((row0 c rest).take i).filter fun w => !decide (w.1 = ""))) ∧ H' d = some (.frz od (.dK kvs)) ∧ ∀ b, b ≠ d → ∀ o, H b = some o → H' b = some o,
      ⟨[], [], e2, .nil, .nil, s2 _ _ e1, fun b hb o eb => s2 _ _ (up eb hb)⟩, (fun i H' _ z => by obtain ⟨_, _, _, _, _, f, _⟩ := z; exact f), ?_, ?_⟩)⟩
    · rintro i key v T H3 H4 hi ⟨ps, akvs, e3, p3, w3, f3, k3⟩ hT s4 e4 ne4
      obtain ⟨y, q, ey, rfl, rfl, hq⟩ := hp.get2 i key v hi
      have hil : i < (row0 c rest).length := (List.getElem?_eq_some_iff.mp ey).1
      have g3 : H3 q = some (.tup [.int y.2.1, .int y.2.2]) := k3 q (fun z => by unfold TupAt at hq; rw [z, hd] at hq; cases hq) _ hq
      have g4 := s4 _ _ g3
      have ny := dr.num y (List.mem_of_getElem? ey)
      refine r_gtup (.inl (.inl e4)) (by rfl) ?_
      dsimp only [L2.kV]
      repeat walk_at "rd"
      refine ⟨rfl, ?_⟩
      repeat walk_at "rd"
      have df := dr.few
      refine r_ndec (fun en => ?_) (fun en => ?_)
      · repeat walk_at "rd"
        refine use_make rfl ny.1 (ny.2.2.mono (by decide)) (fun a H5 s5 ha5 hA => ?_)
        repeat walk_at "rd"
        refine r_new (by show 2 ≤ 100000; decide) (fun t H6 ht s6 e6 _ => ?_)
        have e36 := s6 _ _ (s5 _ _ (s4 _ _ e3))
        have pl : ps.length = akvs.length := Paired.length p3
        have wl := w3.length
        have lf : (mapLow (((row0 c rest).take i).filter fun w => !decide (w.1 = ""))).length ≤ i := by
          unfold mapLow
          rw [List.length_map]
          exact Nat.le_trans (List.length_filter_le ..) (List.length_take_le ..)
        rw [List.length_cons] at hil
        refine g_grow e36 (by rw [List.length_map]; omega) (fun H7 e7 ne7 => ?_)
        have nDd : D ≠ d := fun z => by rw [z, f3] at e3; cases e3
        have keepT : ∀ b xs, H6 b = some (.tup xs) → H7 b = some (.tup xs) := fun b xs eb => by rw [ne7 b (fun z => by rw [z, e36] at eb; cases eb)]; exact eb
        have keepA : ∀ a t b, AmtAt K H6 a t b → AmtAt K H7 a t b := fun a t b ⟨dy, eb⟩ => ⟨dy, by rw [ne7 a (fun z => by rw [z, e36] at eb; cases eb)]; exact eb⟩
        refine ⟨ps ++ [t], akvs ++ [(.inr y.1, .ref a)], by rw [e7, List.map_append]; rfl, ?_, ?_, by rw [ne7 d nDd.symm]; exact s6 _ _ (s5 _ _ (s4 _ _ f3)), fun b hb o eb => ?_⟩
        · refine pair_app (L2.Paired.mapP p3 fun p kv h => keepT _ _ (s6 _ _ (s5 _ _ (s4 _ _ h)))) ?_
          exact keepT _ _ e6
        · rw [List.take_add_one, ey, List.filter_append]
          have : (Option.some y).toList.filter (fun w : Str × Int × Int => !decide (w.1 = "")) = [y] := by
            show [y].filter _ = [y]
            rw [List.filter_cons, if_pos (by rw [decide_eq_false en]; rfl), List.filter_nil]
          rw [this]
          unfold mapLow
          rw [List.map_append]
          exact ((w3.mono fun a t b h => keepA _ _ _ (((h.same s4).same s5).same s6))).snoc (keepA _ _ _ (hA.same s6))
        · rw [ne7 b (fun z => by
            rw [z] at eb
            have := up eb nDd
            rw [hD] at this
            cases this)]
          exact s6 _ _ (s5 _ _ (s4 _ _ (k3 b hb o eb)))
      · refine ⟨ps, akvs, s4 _ _ e3, L2.Paired.mapP p3 fun p kv h => s4 _ _ h, ?_, s4 _ _ f3, fun b hb o eb => s4 _ _ (k3 b hb o eb)⟩
        rw [List.take_add_one, ey, List.filter_append]
        have : (Option.some y).toList.filter (fun w : Str × Int × Int => !decide (w.1 = "")) = [] := by
          show [y].filter _ = []
          rw [List.filter_cons, if_neg (by rw [decide_eq_true en]; decide), List.filter_nil]
        rw [this, List.append_nil]
        exact w3.same s4
    · rintro H3 ⟨ps, akvs, e3, p3, w3, f3, k3⟩
      refine ⟨f3, ?_⟩
      have nDd : D ≠ d := fun z => by rw [z, f3] at e3; cases e3
      have sH : Same H (upd H3 d (.dK kvs)) := same_back hd k3
      have e4 : upd H3 d (.dK kvs) D = some (.lst (ps.map V.ref)) := by rw [upd_ne nDd]; exact e3
      have p4 : Paired (fun p (kv : Key × V) => upd H3 d (.dK kvs) p = some (.tup [kV kv.1, kv.2])) ps akvs := L2.Paired.mapP p3 fun p kv h => by rw [upd_ne (fun z => by rw [z, f3] at h; cases h)]; exact h
      have w4 : WsAt K (upd H3 d (.dK kvs)) akvs (mapLow rest) := by
        rw [kl, show (row0 c rest).take (rest.length + 1) = row0 c rest from List.take_of_length_le (by simp), List.filter_cons, if_neg (by simp), List.filter_eq_self.mpr (fun w hw => by rw [decide_eq_false (ne w hw)]; rfl)] at w3
        exact w3.mono fun a t b ⟨dy, h⟩ => ⟨dy, by rw [upd_ne (fun z => by rw [z, f3] at h; cases h)]; exact h⟩
      generalize upd H3 d (.dK kvs) = H4 at *
      clear e3 p3 w3 f3 k3 e1 ne1 e2 s2
      repeat walk_at "rd"
      have ndA : (akvs.map (·.1)).Nodup := nodup_keys w4.keysI (by unfold mapLow; rw [List.map_map]; exact dr.nd)
      refine ⟨D, ps, akvs, rfl, .inl (.inl e4), L2.Paired.mapP p4 fun p kv h => .inl (.inl h), fun P hP => ?_⟩
      rw [merge_nil ndA]
      generalize e5' : upd H4 P (.dK akvs) = H5
      have s5 : Same H4 H5 := by rw [← e5']; exact same_upd hP
      have e5 : H5 P = some (.dK akvs) := by rw [← e5']; exact upd_same
      clear e5'
      have w5 := w4.same s5
      have hPH : H P = none := same_none sH hP
      repeat walk_at "rd"
      refine ⟨P, akvs, rfl, .inl e5, fun l hl => ?_⟩
      generalize e6' : upd H5 l (.lst (akvs.map fun kv => kV kv.1)) = H6
      have s6 : Same H5 H6 := by rw [← e6']; exact same_upd hl
      have e6 : H6 l = some (.lst (akvs.map fun kv => kV kv.1)) := by rw [← e6']; exact upd_same
      clear e6'
      have nlP : l ≠ P := fun z => by rw [z, e5] at hl; cases hl
      have sH6 : Same H H6 := (sH.trans s5).trans s6
      have wl := w5.length
      have ndr : ((mapLow rest).map fun w => w.1).Nodup := by unfold mapLow; rw [List.map_map]; exact dr.nd
      have mlen : (mapLow rest).length = rest.length := by unfold mapLow; exact List.length_map ..
      have df := dr.few
      refine q_itl e6 ?_
      refine u_list (xs := akvs.map fun kv => kV kv.1) (fun i σ H' => ∃ x pre, σ = [some (V.ref d), some (V.bl w), some (V.ref P), x, none, none] ∧ H' P = some (.dK (pre ++ akvs.drop i)) ∧ WsV K H' pre ((mapLow rest).take i) ∧ H' l = some (.lst (akvs.map fun kv => kV kv.1)) ∧ ∀ b, b ≠ P → ∀ o, H6 b = some o → H' b = some o)
        ⟨_, [], rfl, s6 _ _ e5, .nil, e6, fun _ _ _ e => e⟩ (fun i σ H' _ z => by obtain ⟨_, _, _, _, _, z, _⟩ := z; exact .inl (.inl z)) ?_ ?_
      · rintro i x σ H7 hx ⟨x0, pre, rfl, e7, w7, l7, k7⟩
        rw [List.getElem?_map] at hx
        obtain ⟨⟨key, v⟩, hkv, rfl⟩ := Option.map_eq_some_iff.mp hx
        obtain ⟨y, a, ey, rfl, rfl, ha⟩ := w5.get2 i key v hkv
        have hi : i < akvs.length := (List.getElem?_eq_some_iff.mp hkv).1
        have ed : akvs.drop i = (.inr y.1, .ref a) :: akvs.drop (i + 1) := by
          rw [List.drop_eq_getElem_cons hi]
          congr 1
          rw [List.getElem?_eq_getElem hi] at hkv
          exact Option.some.inj hkv
        have keysE : (pre ++ akvs.drop i).map (·.1) = akvs.map (·.1) := by
          rw [List.map_append, show pre.map (fun x => x.1) = ((mapLow rest).take i).map (fun w => Sum.inr w.1) from by rw [w7.keys, List.map_map]; rfl, List.map_take, List.map_drop]
          have := w5.keysI
          show _ = akvs.map fun x => x.1
          rw [this, List.map_map]
          exact List.take_append_drop i _
        have nd7 : ((pre ++ akvs.drop i).map (·.1)).Nodup := by rw [keysE]; exact ndA
        have lp : pre.length = i := by
          have := congrArg List.length w7.keys
          rw [List.length_map, List.length_map, List.length_map, List.length_take] at this
          omega
        have ha7 : AmtAt K H7 a y.2.1 y.2.2 := by
          obtain ⟨dy, e⟩ := ha
          exact ⟨dy, k7 a (fun z => by rw [z, e5] at e; cases e) _ (s6 _ _ e)⟩
        have vv : valV (pre ++ akvs.drop i) (.inr y.1) = some (.ref a) := valV_at (i := i) nd7 (by rw [List.getElem?_append_right (by omega), lp, Nat.sub_self, ed]; rfl)
        have stay : ∃ x pre', [some (V.ref d), some (V.bl w), some (V.ref P), some (kV (.inr y.1)), none, none] = [some (V.ref d), some (V.bl w), some (V.ref P), x, none, none] ∧ H7 P = some (.dK (pre' ++ akvs.drop (i + 1))) ∧ WsV K H7 pre' ((mapLow rest).take (i + 1)) ∧ H7 l = some (.lst (akvs.map fun kv => kV kv.1)) ∧ ∀ b, b ≠ P → ∀ o, H6 b = some o → H7 b = some o :=
          ⟨_, pre ++ [(.inr y.1, .ref a)], rfl, by rw [e7, ed, List.append_assoc]; rfl, by rw [List.take_add_one, ey]; exact w7.snoc (.inl ⟨a, rfl, ha7⟩), l7, k7⟩
        dsimp only [L2.kV] at stay ⊢
        repeat walk_at "rd"
        cases w with
        | false =>
          repeat walk_at "rd"
          exact stay
        | true =>
          repeat walk_at "rd"
          refine ⟨P, _, rfl, .inl ⟨_, .inr y.1, .inl e7, rfl, vv.symm⟩, ?_⟩
          repeat walk_at "rd"
          refine r_dec (fun eb => ?_) (fun eb => ?_)
          · refine r_dput ?_
            repeat walk_at "rd"
            refine ⟨P, _, rfl, .inl ⟨_, .inr y.1, .inl e7, rfl, vv.symm⟩, ?_⟩
            repeat walk_at "rd"
            refine ⟨P, _, rfl, .inl ⟨_, .inr y.1, e7, rfl, Nat.lt_of_lt_of_le (by rw [List.length_append, List.length_drop]; omega : _ < 100) (by decide), rfl⟩, ?_⟩
            have pm : putK (pre ++ akvs.drop i) (.inr y.1) (.int y.2.1) = (pre ++ [(.inr y.1, .int y.2.1)]) ++ akvs.drop (i + 1) := by
              rw [ed] at nd7 ⊢
              rw [put_mid nd7, List.append_assoc]
              rfl
            rw [pm]
            refine ⟨_, _, rfl, upd_same, ?_, by rw [upd_ne nlP]; exact l7, fun b hb o e => by rw [upd_ne hb]; exact k7 b hb o e⟩
            rw [List.take_add_one, ey]
            exact (w7.mono fun a t b ⟨dy, h⟩ => ⟨dy, by rw [upd_ne (fun z => by rw [z, e7] at h; cases h)]; exact h⟩).snoc (.inr ⟨rfl, eb⟩)
          · repeat walk_at "rd"
            exact stay
      · rintro σ H7 ⟨x0, pre, rfl, e7, w7, l7, k7⟩
        rw [List.length_map, List.drop_of_length_le (Nat.le_refl _), List.append_nil] at e7
        rw [List.length_map, wl, List.take_of_length_le (Nat.le_refl _)] at w7
        have sH7 : Same H H7 := fun b o e => k7 b (ne_of_none e hPH) o (sH6 _ _ e)
        have nc := dr.num _ List.mem_cons_self
        obtain ⟨q0, v0, h0⟩ : ∃ q, valV kvs (.inr "") = some (.ref q) ∧ TupAt H q c.1 c.2 := by
          rcases hp.get (z := "") with ⟨_, _, h⟩ | ⟨q, e1, h⟩
          · exact absurd List.mem_cons_self h
          · rw [wsGet_cons, if_pos rfl] at h
            exact ⟨q, e1, h⟩
        have g0 := sH7 _ _ h0
        have hd7 := sH7 _ _ hd
        repeat walk_at "rd"
        refine ⟨d, _, rfl, .inl ⟨kvs, .inr "", .inl hd7, rfl, v0.symm⟩, ?_⟩
        repeat walk_at "rd"
        refine ⟨d, _, rfl, .inl ⟨kvs, .inr "", .inl hd7, rfl, v0.symm⟩, ?_⟩
        repeat walk_at "rd"
        refine use_make rfl nc.1 (nc.2.2.mono (by decide)) (fun ca H8 s8 _ hca => ?_)
        repeat walk_at "rd"
        have e8 := s8 _ _ e7
        refine use_mkN (c := low c.1 c.2) (ws := mapLow rest) rfl (.inl ⟨ca, rfl, hca⟩) (.inr ⟨P, pre, rfl, e8, w7.same s8, fun w hw => ?_, nodup_keys w7.keys ndr, ?_⟩) ndr (fun a H9 s9 ha9 hf => ?_)
        · obtain ⟨y, hy, rfl⟩ := List.mem_map.mp hw
          have := names7_ok _ (dr.sym y hy)
          exact ⟨this.1, this.2.1⟩
        · have := congrArg List.length w7.keys
          rw [List.length_map, List.length_map, List.length_map] at this
          omega
        repeat walk_at "rd"
        refine r_dput ?_
        repeat walk_at "rd"
        refine use_make rfl (by decide) (by unfold Sz; decide +kernel) (fun a7 H10 s10 _ _ => ?_)
        repeat walk_at "rd"
        have e10 := s10 _ _ (s9 _ _ e8)
        have lpre : pre.length ≤ 5 := by
          have := congrArg List.length w7.keys
          rw [List.length_map, List.length_map, List.length_map] at this
          omega
        refine ⟨P, _, rfl, .inl ⟨pre, .inr "q", e10, rfl, Nat.lt_of_lt_of_le (by omega : _ < 100) (by decide), rfl⟩, ?_⟩
        repeat walk_at "rd"
        have s80 : Same H H10 := ((sH7.trans s8).trans s9).trans s10
        refine k a _ (fun b o e => by rw [upd_ne (ne_of_none e hPH)]; exact s80 _ _ e) ?_
        obtain ⟨dx, ca2, d2, kvs2, f1, f2, f3, f4, f5⟩ := hf
        have nP : ∀ {b o}, H10 b = some o → (∀ l, o ≠ .dK l) → b ≠ P := fun {b o} e n z => by rw [z, e10] at e; exact n _ (Option.some.inj e).symm
        have n2 : d2 ≠ P := fun z => by rw [z, e8] at f5; cases f5
        exact ⟨dx, ca2, d2, kvs2, by rw [upd_ne (nP (s10 _ _ f1) (fun l e => by cases e))]; exact s10 _ _ f1, (f2.same s10).offK e10 (fun b hb => upd_ne hb), by rw [upd_ne n2]; exact s10 _ _ f3, (f4.same s10).mono fun a t b h => h.offK e10 (fun b hb => upd_ne hb)⟩

end
local macro_rules
  | `(tactic| walk_at "len") => `(tactic| (simp only [PySem.Str.length_append, ln0, ln1, ln2, ln3, ln4, lnL, ln5, ln6, ln7, ln8, ln9]; omega))

/-! ### what the law keeps of each row, and the texts it makes of them -/
def sp_ltext (f : Int → Int → Str) : Sp := fun vs H Q _ => ∃ q t b, vs = [.ref q] ∧ TupAt H q t b ∧ Sz 1900 t ∧ Sz 1900 b ∧ Q (.str (f t b)) H
theorem nodup_len {α : Type} [DecidableEq α] : ∀ {l m : List α}, l.Nodup → (∀ x ∈ l, x ∈ m) → l.length ≤ m.length
  | [], m, _, _ => Nat.zero_le _
  | x :: l, m, nd, s => by
    rw [List.nodup_cons] at nd
    have hx := s x List.mem_cons_self
    have ih := nodup_len (l := l) (m := m.erase x) nd.2 fun y hy => (List.mem_erase_of_ne (fun z => nd.1 (by rw [← z]; exact hy))).mpr (s y (List.mem_cons_of_mem _ hy))
    rw [List.length_erase_of_mem hx] at ih
    have : 0 < m.length := List.length_pos_of_mem hx
    rw [List.length_cons]
    omega
/-- lowest terms, names of the seven, sorted, no 0; numbers of at most n bits -/
structure ROk (n : Nat) (c : Int × Int) (ws : Ws) : Prop where
  lw : Lw c
  lwa : LwA ws
  cn : Cn ws
  nm : ∀ w ∈ ws, w.1 ∈ names7
  num : NumA n (row0 c ws)
theorem ROk.few {n : Nat} {c : Int × Int} {ws : Ws} (h : ROk n c ws) : ws.length ≤ 7 := by
  have := nodup_len h.cn.2 (m := names7) fun x hx => by
    obtain ⟨w, hw, rfl⟩ := List.mem_map.mp hx
    exact h.nm w hw
  rw [List.length_map] at this
  exact this
theorem ROk.nd0 {n : Nat} {c : Int × Int} {ws : Ws} (h : ROk n c ws) : ((row0 c ws).map fun w => w.1).Nodup := by
  rw [List.map_cons, List.nodup_cons]
  refine ⟨fun m => ?_, h.cn.2⟩
  obtain ⟨w, hw, e⟩ := List.mem_map.mp m
  exact (names7_ok _ (h.nm w hw)).2.2 e
theorem ROk.mono {n m : Nat} {c : Int × Int} {ws : Ws} (h : ROk n c ws) (l : n ≤ m) : ROk m c ws := ⟨h.lw, h.lwa, h.cn, h.nm, fun w hw => let ⟨a, b, d⟩ := h.num w hw; ⟨a, b.mono l, d.mono l⟩⟩
theorem ROk.wok {n : Nat} {c : Int × Int} {ws : Ws} (h : ROk n c ws) : WOk n ws := ⟨fun w hw => let z := names7_ok _ (h.nm w hw); ⟨z.1, z.2.1⟩, h.cn.2, Nat.lt_of_le_of_lt h.few (by decide), fun w hw => h.num w (List.mem_cons_of_mem _ hw)⟩
theorem leS_nil (z : Str) : leS "" z = true := leS_iff.mpr (by
  have e : (("" : Str)).cps.toList = [] := by decide +kernel
  rw [e]
  exact List.nil_le _)
theorem ROk.sorted {n : Nat} {c : Int × Int} {ws : Ws} (h : ROk n c ws) : sortK (fun w => w.1) (row0 c ws) = row0 c ws := by
  have e : canon ws = ws := h.cn.1
  have pw : ws.Pairwise fun a b => leS a.1 b.1 = true := by
    rw [← e]
    exact (sortK_pw (f := fun w : Str × Int × Int => w.1) (l := ws)).sublist List.filter_sublist
  have pw0 : (row0 c ws).Pairwise fun a b => leS a.1 b.1 = true := List.pairwise_cons.mpr ⟨fun w _ => leS_nil _, pw⟩
  refine List.Perm.eq_of_pairwise (le := fun a b => leS a.1 b.1 = true) (fun a b ha hb h1 h2 => ?_) sortK_pw pw0 sortK_perm
  exact inj_of_nodup (f := fun w : Str × Int × Int => w.1) h.nd0 (sortK_perm.mem_iff.mp ha) hb (leS_anti h1 h2)
theorem unsT_abs {t b : Int} (h : Lw (t, b)) : unsT (t, b) = amtS ((t.natAbs : Nat) : Int) b := by
  unfold unsT
  dsimp only
  split
  · have e := h.neg.2
    dsimp only at e
    rw [e]
    show amtS (-t) b = _
    rw [show (-t) = ((t.natAbs : Nat) : Int) from by omega]
  · rw [show t = ((t.natAbs : Nat) : Int) from by omega]
    rfl
theorem ofS_inj {a b : String} (h : Str.ofString a = Str.ofString b) : a = b := by
  rw [Str.ofString_eq_toList, Str.ofString_eq_toList] at h
  have h1 := congrArg (fun x : Str => x.cps.toList) h
  have h2 : a.toList.map Char.toNat = b.toList.map Char.toNat := h1
  have h3 := (List.map_inj_right (fun (x y : Char) (e : x.toNat = y.toNat) => Char.toNat_inj.mp e)).mp h2
  exact String.toList_inj.mp h3
theorem amtS_one {t b : Int} : amtS t b = "1" ↔ t = 1 ∧ b = 1 := by
  unfold amtS
  constructor
  · split
    · intro h
      have e : (toString t : String) = "1" := ofS_inj h
      have e1 : Int.repr t = Int.repr 1 := e
      exact ⟨Int.repr_inj.mp e1, by assumption⟩
    · intro h
      exfalso
      have hm : 47 ∈ (("1" : Str)).cps.toList := by
        rw [← h, Str.cps_append, Str.cps_append, Array.toList_append, Array.toList_append, List.mem_append, List.mem_append]
        exact .inl (.inr (by decide +kernel))
      revert hm
      decide +kernel
  · rintro ⟨rfl, rfl⟩
    rw [if_pos rfl]
    decide +kernel
/-- pairs of a bool and a text -/
inductive PtB (H : Hp) : List V → List (Int × Str) → Prop where
  | nil : PtB H [] []
  | cons {p : Addr} {s : Int} {z : Str} {vs : List V} {ps : List (Int × Str)} (h : H p = some (.tup [.bl (decide (s < 0)), .str z])) (r : PtB H vs ps) : PtB H (.ref p :: vs) ((s, z) :: ps)
section
variable {H H' : Hp} {vs : List V} {ps : List (Int × Str)}
theorem PtB.mono (h : PtB H vs ps) (s : ∀ b xs, H b = some (.tup xs) → H' b = some (.tup xs)) : PtB H' vs ps := by
  induction h with
  | nil => exact .nil
  | cons e _ ih => exact .cons (s _ _ e) ih
theorem PtB.snoc {p : Addr} {s : Int} {z : Str} (h : PtB H vs ps) (e : H p = some (.tup [.bl (decide (s < 0)), .str z])) : PtB H (vs ++ [.ref p]) (ps ++ [(s, z)]) := by
  induction h with
  | nil => exact .cons e .nil
  | cons e' _ ih => exact .cons e' ih
theorem PtB.length (h : PtB H vs ps) : vs.length = ps.length := by
  induction h with
  | nil => rfl
  | cons _ _ ih => rw [List.length_cons, List.length_cons, ih]
theorem PtB.get (h : PtB H vs ps) : ∀ (i : Nat) (v : V), vs[i]? = some v → ∃ p s z, v = .ref p ∧ ps[i]? = some (s, z) ∧ H p = some (.tup [.bl (decide (s < 0)), .str z]) := by
  induction h with
  | nil => intro i v e; cases e
  | cons e _ ih =>
    intro i v hv
    cases i with
    | zero => cases hv; exact ⟨_, _, _, rfl, rfl, e⟩
    | succ i => exact ih i v hv
end
theorem eqv_pair {a b t u : Int} : PyData.eqv (.tuple [.int a, .int b]) (.tuple [.int t, .int u]) = decide (a = t ∧ b = u) := by
  simp only [PyData.eqv, PyData.eqvAll, Bool.and_true]
  by_cases h1 : a = t
  · subst h1
    by_cases h2 : b = u
    · subst h2; simp
    · simp [h2]
  · simp [h1]
theorem shaped_pair (a b : Int) : SeqAt.shaped (.tuple [.int a, .int b]) = true := by
  unfold SeqAt.shaped
  rw [Bool.and_eq_true]
  exact ⟨rfl, decide_eq_true (Nat.le_of_ble_eq_true (by rfl))⟩
theorem dp_pair {K : PySem.W.Frag} {H : Hp} {q : Addr} {t b : Int} (h : H q = some (.tup [.int t, .int b])) : Dp K H (.ref q) (.tuple [.int t, .int b]) := .tup (.inl (.inl h)) (.cons (.int _) (.cons (.int _) .nil))
theorem r_eqPair {K : PySem.W.Frag} {H : Hp} {Q : VK} {p q : Addr} {a b t u : Int} (h : H p = some (.tup [.int a, .int b])) (h' : H q = some (.tup [.int t, .int u])) (k : Q (.bl (decide (a = t ∧ b = u))) H) : rEqD K (.ref p) (.ref q) H Q :=
  r_eqD (dp_pair h) (dp_pair h') (shaped_pair _ _) (shaped_pair _ _) (by rw [eqv_pair]; exact k)
/-- the law's own text of a row -/
def sp_lrow : Sp := fun vs H Q _ => ∃ d, ∃ c : Int × Int, ∃ ws : Ws, vs = [.ref d] ∧ RowAt H d (row0 c ws) ∧ ROk 1900 c ws ∧ ∀ H', Same H H' → (formT c ws).length ≤ 1000000 → Q (.str (formT c ws)) H'

section
variable {P : Program} {w : World} {K : PySem.W.Frag} {mg : Str → Option Value} {base : Heap}
theorem sc_l_amount_text : FnScope ["_law_pair_here"] ["_law_pair_here"] (defScope s_l_amount_text) := ⟨rfl, rfl, rfl, by decide +kernel, rfl, by decide +kernel, by decide +kernel⟩
theorem ok_l_amount_text (T : Tx K mg) : FnG P w K mg base CX0 true 1 (He.ga K "_law_amount_text") T.fd_l_amount_text ["_law_pair_here"] (sp_ltext amtS) := by
  refine funG T.F_l_amount_text sc_l_amount_text (fun vs H Q E h => ?_) (fun cdv A outer s H vs Q E hr hg h => ?_)
  · obtain ⟨q, t, b, e, _⟩ := h; rw [e]; rfl
  · obtain ⟨q, t, b, rfl, hq, z1, z2, k⟩ := h
    refine ⟨_, (pss_one (ps_ret (pe_ifExp (pt_cmpR op_eq (pe_ix (ix_tupK (K' := K)) (pv 0) pe_int (fun _ _ => rfl)) pe_int (nomark _)) (pe_callTy call_str_int (by rfl) T.m_str (by decide +kernel) (pa_cons (pe_ix (ix_tupK (K' := K)) (pv 0) pe_int (fun _ _ => rfl)) pa_nil)) (pe_op op_add_str (pe_op op_add_str (pe_callTy call_str_int (by rfl) T.m_str (by decide +kernel) (pa_cons (pe_ix (ix_tupK (K' := K)) (pv 0) pe_int (fun _ _ => rfl)) pa_nil)) pe_str) (pe_callTy call_str_int (by rfl) T.m_str (by decide +kernel) (pa_cons (pe_ix (ix_tupK (K' := K)) (pv 0) pe_int (fun _ _ => rfl)) pa_nil)))))), ?_⟩
    unfold TupAt at hq
    unfold amtS at k
    have y1 := int_text_len_1921 (z1.log (m := 1920) (by decide) (by decide))
    have y2 := int_text_len_1921 (z2.log (m := 1920) (by decide) (by decide))
    walk_at "st"
    repeat walk_at "rd"
    refine r_dec (fun e => ?_) (fun e => ?_)
    · rw [if_pos e] at k
      repeat walk_at "rd"
      exact ⟨z1.log (by decide) (by decide), k⟩
    · rw [if_neg e, Str.empty_append] at k
      repeat walk_at "rd"
      refine ⟨z1.log (by decide) (by decide), ?_⟩
      repeat walk_at "rd"
      refine ⟨_, _, rfl, rfl, by walk_at "len", ?_⟩
      repeat walk_at "rd"
      refine ⟨z2.log (by decide) (by decide), ?_⟩
      exact ⟨_, _, rfl, rfl, by walk_at "len", k⟩
theorem sc_l_shown : FnScope ["_law_pair_here"] ["_law_pair_here"] (defScope s_l_shown) := ⟨rfl, rfl, rfl, by decide +kernel, rfl, by decide +kernel, by decide +kernel⟩
theorem ok_l_shown (T : Tx K mg) : FnG P w K mg base CX0 true 1 (He.ga K "_law_shown") T.fd_l_shown ["_law_pair_here"] (sp_ltext amtR) := by
  refine funG T.F_l_shown sc_l_shown (fun vs H Q E h => ?_) (fun cdv A outer s H vs Q E hr hg h => ?_)
  · obtain ⟨q, t, b, e, _⟩ := h; rw [e]; rfl
  · obtain ⟨q, t, b, rfl, hq, z1, z2, k⟩ := h
    refine ⟨_, (pss_one (ps_ret (pe_op op_add_str (pe_op op_add_str (pe_op op_add_str (pe_op op_add_str pe_str (pe_callTy call_str_int (by rfl) T.m_str (by decide +kernel) (pa_cons (pe_ix (ix_tupK (K' := K)) (pv 0) pe_int (fun _ _ => rfl)) pa_nil))) pe_str) (pe_callTy call_str_int (by rfl) T.m_str (by decide +kernel) (pa_cons (pe_ix (ix_tupK (K' := K)) (pv 0) pe_int (fun _ _ => rfl)) pa_nil))) pe_str))), ?_⟩
    unfold TupAt at hq
    unfold amtR at k
    rw [Str.empty_append] at k
    have y1 := int_text_len_1921 (z1.log (m := 1920) (by decide) (by decide))
    have y2 := int_text_len_1921 (z2.log (m := 1920) (by decide) (by decide))
    walk_at "st"
    repeat walk_at "rd"
    refine ⟨z1.log (by decide) (by decide), ?_⟩
    repeat walk_at "rd"
    refine ⟨_, _, rfl, rfl, by walk_at "len", ?_⟩
    repeat walk_at "rd"
    refine ⟨_, _, rfl, rfl, by walk_at "len", ?_⟩
    repeat walk_at "rd"
    refine ⟨z2.log (by decide) (by decide), ?_⟩
    repeat walk_at "rd"
    refine ⟨_, _, rfl, rfl, by walk_at "len", ?_⟩
    repeat walk_at "rd"
    exact ⟨_, _, rfl, rfl, by walk_at "len", k⟩
theorem sc_l_text : FnScope ["_law_row", "_law_parts", "_law_name", "_law_size", "_law_shown_here", "_law_is_below", "_law_part"] ["_law_row"] (defScope s_l_text) := ⟨rfl, rfl, rfl, by decide +kernel, rfl, by decide +kernel, by decide +kernel⟩
theorem ok_l_text (T : Tx K mg) : FnG P w K mg base CX0 true 2 (He.ga K "_law_text") T.fd_l_text ["_law_row"] (sp_lrow) := by
  refine funG T.F_l_text sc_l_text (fun vs H Q E h => ?_) (fun cdv A outer s H vs Q E hr hg h => ?_)
  · obtain ⟨d, c, ws, e, _⟩ := h; rw [e]; rfl
  · obtain ⟨d, c, ws, rfl, ⟨kvs, hd, hp⟩, r, k⟩ := h
    refine ⟨_, (pss_cons (ps_set (i := 1) sc_l_text.nd rfl (by first | exact Or.inl rfl | exact Or.inr rfl) (pe_lst pa_nil))
    (pss_cons (ps_if (PW.pt (pw_or (pt_cmpR op_ne (pe_ix (ix_tupK (K' := K)) (pe_dget (Nat.lt_of_le_of_lt (Nat.add_le_add_left (by decide : 1 ≤ 64) _) hr.units) (pv 0) pe_str (fun _ _ => rfl)) pe_int (fun _ _ => rfl)) pe_int (nomark _)) (pw_or1 (pt_cmpR op_eq (pe_callB call_lenD (by rfl) T.m_len (by decide +kernel) (pa_cons (pv 0) pa_nil)) pe_int (nomark _))))) (pss_one (ps_expr (pe_bm PySem.F.plainAttrs_list PySem.F.slot_list_append PySem.F.type_list_append mt_append (pv 1) (pa_cons (pe_tup (pa_cons (pe_cmpR op_lt (pe_ix (ix_tupK (K' := K)) (pe_dget (Nat.lt_of_le_of_lt (Nat.add_le_add_left (by decide : 1 ≤ 64) _) hr.units) (pv 0) pe_str (fun _ _ => rfl)) pe_int (fun _ _ => rfl)) pe_int (nomark _)) (pa_cons (pg_call (ok_l_amount_text T) (hr.mono (by decide)) hg (by rfl) T.g_l_amount_text T.F_l_amount_text.kp T.b_l_amount_text .nil pass0 (pa_cons (pe_tup (pa_cons (pe_callB call_abs (by rfl) T.m_abs (by decide +kernel) (pa_cons (pe_ix (ix_tupK (K' := K)) (pe_dget (Nat.lt_of_le_of_lt (Nat.add_le_add_left (by decide : 1 ≤ 64) _) hr.units) (pv 0) pe_str (fun _ _ => rfl)) pe_int (fun _ _ => rfl)) pa_nil)) (pa_cons (pe_ix (ix_tupK (K' := K)) (pe_dget (Nat.lt_of_le_of_lt (Nat.add_le_add_left (by decide : 1 ≤ 64) _) hr.units) (pv 0) pe_str (fun _ _ => rfl)) pe_int (fun _ _ => rfl)) pa_nil))) pa_nil)) pa_nil))) pa_nil)))) pss_nil)
    (pss_cons (ps_for PassesOwn.never (by rfl) (pi_list (pe_callB (call_sortedD rfl) (by rfl) T.m_sorted (by decide +kernel) (pa_cons (pv 0) pa_nil))) (pg_name (i := 2) sc_l_text.nd rfl (by first | exact Or.inl rfl | exact Or.inr rfl)) (pss_cons (ps_set (i := 3) sc_l_text.nd rfl (by first | exact Or.inl rfl | exact Or.inr rfl) (pe_tup (pa_cons (pe_callB call_abs (by rfl) T.m_abs (by decide +kernel) (pa_cons (pe_ix (ix_tupK (K' := K)) (pe_dget (Nat.lt_of_le_of_lt (Nat.add_le_add_left (by decide : 1 ≤ 64) _) hr.units) (pv 0) (pv 2) (fun _ _ => rfl)) pe_int (fun _ _ => rfl)) pa_nil)) (pa_cons (pe_ix (ix_tupK (K' := K)) (pe_dget (Nat.lt_of_le_of_lt (Nat.add_le_add_left (by decide : 1 ≤ 64) _) hr.units) (pv 0) (pv 2) (fun _ _ => rfl)) pe_int (fun _ _ => rfl)) pa_nil))))
    (pss_one (ps_if (pt_cmpR op_ne (pv 2) pe_str (nomark _)) (pss_one (ps_expr (pe_bm PySem.F.plainAttrs_list PySem.F.slot_list_append PySem.F.type_list_append mt_append (pv 1) (pa_cons (pe_tup (pa_cons (pe_cmpR op_lt (pe_ix (ix_tupK (K' := K)) (pe_dget (Nat.lt_of_le_of_lt (Nat.add_le_add_left (by decide : 1 ≤ 64) _) hr.units) (pv 0) (pv 2) (fun _ _ => rfl)) pe_int (fun _ _ => rfl)) pe_int (nomark _)) (pa_cons (pe_ifExp (pt_cmpR (op_eqD hr.units) (pv 3) (pe_tup (pa_cons pe_int (pa_cons pe_int pa_nil))) (nomark _)) (pv 2) (pe_op op_add_str (pe_op op_add_str (pg_call (ok_l_amount_text T) (hr.mono (by decide)) hg (by rfl) T.g_l_amount_text T.F_l_amount_text.kp T.b_l_amount_text .nil pass0 (pa_cons (pv 3) pa_nil)) pe_str) (pv 2))) pa_nil))) pa_nil)))) pss_nil))))
    (pss_cons (ps_set (i := 4) sc_l_text.nd rfl (by first | exact Or.inl rfl | exact Or.inr rfl) (pe_ifExp (pt_val (pe_ix (ix_tupK (K' := K)) (pe_ix (ix_listK (K' := K)) (pv 1) pe_int (fun _ _ => rfl)) pe_int (fun _ _ => rfl))) (pe_op op_add_str pe_str (pe_ix (ix_tupK (K' := K)) (pe_ix (ix_listK (K' := K)) (pv 1) pe_int (fun _ _ => rfl)) pe_int (fun _ _ => rfl))) (pe_ix (ix_tupK (K' := K)) (pe_ix (ix_listK (K' := K)) (pv 1) pe_int (fun _ _ => rfl)) pe_int (fun _ _ => rfl))))
    (pss_cons (ps_for PassesOwn.never (by rfl) (pi_list (pe_slice sl_list (pv 1) (po_some pe_int) po_none)) (pg_tupK (K' := K) (n := 2) (by rfl) (pgs_cons (pg_name (i := 5) sc_l_text.nd rfl (by first | exact Or.inl rfl | exact Or.inr rfl)) (pgs_cons (pg_name (i := 6) sc_l_text.nd rfl (by first | exact Or.inl rfl | exact Or.inr rfl)) pgs_nil))) (pss_one (ps_set (i := 4) sc_l_text.nd rfl (by first | exact Or.inl rfl | exact Or.inr rfl) (pe_op op_add_str (pe_op op_add_str (pv 4) (pe_ifExp (pt_val (pv 5)) pe_str pe_str)) (pv 6)))))
    (pss_one (ps_ret (pv 4)))))))), ?_⟩
    have nd := r.nd0
    have fw := r.few
    have ndk : (kvs.map (·.1)).Nodup := nodup_keys hp.keysI nd
    have get : ∀ w ∈ row0 c ws, ∃ q, valV kvs (.inr w.1) = some (.ref q) ∧ H q = some (.tup [.int w.2.1, .int w.2.2]) := fun w hw => by
      rcases hp.get (z := w.1) with ⟨_, _, h⟩ | ⟨q, e1, h⟩
      · exact absurd (List.mem_map.mpr ⟨w, hw, rfl⟩) h
      · rw [wsGet_of nd hw] at h
        exact ⟨q, e1, h⟩
    obtain ⟨q0, v0, h0⟩ := get _ List.mem_cons_self
    have kl := hp.length
    walk_at "st"
    refine r_seq ?_
    repeat walk_at "rd"
    refine r_new (by show 0 ≤ 100000; decide) (fun L H1 hL s1 e1 _ => ?_)
    refine r_gname ?_
    refine r_seq ?_
    refine r_gen (fun σ' H' => ∃ vs, σ' = [some (.ref d), some (.ref L), none, none, none, none, none] ∧ H' L = some (.lst vs) ∧ PtB H' vs (headT c ws) ∧ Same H H') (fun n' kn => ?_) ?_
    · repeat walk_at "rd"
      refine ⟨d, _, rfl, .inl ⟨kvs, .inr "", .inl (s1 _ _ hd), rfl, v0.symm⟩, ?_⟩
      have g0 := s1 _ _ h0
      have n0 := r.num _ List.mem_cons_self
      dsimp only at g0 n0
      repeat walk_at "rd"
      refine r_ndec (fun h0 => ?_) (fun h0 => ?_)
      · repeat walk_at "rd"
        refine ⟨d, _, rfl, .inl ⟨kvs, .inr "", .inl (s1 _ _ hd), rfl, v0.symm⟩, ?_⟩
        repeat walk_at "rd"
        refine ⟨d, _, rfl, .inl ⟨kvs, .inr "", .inl (s1 _ _ hd), rfl, v0.symm⟩, ?_⟩
        repeat walk_at "rd"
        refine ⟨d, _, rfl, .inl ⟨kvs, .inr "", .inl (s1 _ _ hd), rfl, v0.symm⟩, ?_⟩
        repeat walk_at "rd"
        refine r_new (by show 2 ≤ 100000; decide) (fun q H2 hq s2 e2 _ => ?_)
        rw [abs_nat] at e2
        refine ⟨q, _, _, rfl, e2, n0.2.1.le (by omega), n0.2.2, ?_⟩
        repeat walk_at "rd"
        refine r_new (by show 2 ≤ 100000; decide) (fun p H3 hp3 s3 e3 _ => ?_)
        refine r_nil ?_
        refine r_append (s3 _ _ (s2 _ _ e1)) (by decide) ?_
        refine kn _ _ ⟨_, rfl, upd_same, ?_, same_put ((s1.trans s2).trans s3) hL (fun b hb => upd_ne hb)⟩
        unfold headT
        rw [if_pos (.inl h0), unsT_abs (t := c.1) (b := c.2) r.lw]
        refine .cons ?_ .nil
        rw [upd_ne (fun z => by rw [z, s3 _ _ (s2 _ _ e1)] at e3; cases e3), e3, show decide (sgn c.1 < 0) = decide (c.1 < 0) from decide_eq_decide.mpr sgn_neg]
      · repeat walk_at "rd"
        refine ⟨d, kvs, rfl, s1 _ _ hd, ?_⟩
        repeat walk_at "rd"
        refine r_dec (fun h1 => ?_) (fun h1 => ?_)
        · repeat walk_at "rd"
          refine ⟨d, _, rfl, .inl ⟨kvs, .inr "", .inl (s1 _ _ hd), rfl, v0.symm⟩, ?_⟩
          repeat walk_at "rd"
          refine ⟨d, _, rfl, .inl ⟨kvs, .inr "", .inl (s1 _ _ hd), rfl, v0.symm⟩, ?_⟩
          repeat walk_at "rd"
          refine ⟨d, _, rfl, .inl ⟨kvs, .inr "", .inl (s1 _ _ hd), rfl, v0.symm⟩, ?_⟩
          repeat walk_at "rd"
          refine r_new (by show 2 ≤ 100000; decide) (fun q H2 hq s2 e2 _ => ?_)
          rw [abs_nat] at e2
          refine ⟨q, _, _, rfl, e2, n0.2.1.le (by omega), n0.2.2, ?_⟩
          repeat walk_at "rd"
          refine r_new (by show 2 ≤ 100000; decide) (fun p H3 hp3 s3 e3 _ => ?_)
          refine r_nil ?_
          refine r_append (s3 _ _ (s2 _ _ e1)) (by decide) ?_
          refine kn _ _ ⟨_, rfl, upd_same, ?_, same_put ((s1.trans s2).trans s3) hL (fun b hb => upd_ne hb)⟩
          unfold headT
          rw [if_pos (.inr (List.eq_nil_of_length_eq_zero (by rw [List.length_cons] at kl; omega))), unsT_abs (t := c.1) (b := c.2) r.lw]
          refine .cons ?_ .nil
          rw [upd_ne (fun z => by rw [z, s3 _ _ (s2 _ _ e1)] at e3; cases e3), e3, show decide (sgn c.1 < 0) = decide (c.1 < 0) from decide_eq_decide.mpr sgn_neg]
        · repeat walk_at "rd"
          refine kn _ _ ⟨_, rfl, e1, ?_, s1⟩
          unfold headT
          rw [if_neg (fun z => z.elim (fun z => z h0) (fun z => h1 (by rw [kl, z]; rfl)))]
          exact .nil
    · rintro σ' H2 ⟨vs, rfl, e2, p2, s2⟩
      repeat walk_at "rd"
      refine ⟨d, kvs, (row0 c ws).map fun w => w.1, rfl, .inl (s2 _ _ hd), hp.keysI, by rw [List.length_map, List.length_cons]; omega, fun ys l pm srt hl => ?_⟩
      obtain ⟨es, pe, rfl⟩ := perm_lift pm (row0 c ws) rfl
      have ees : es = row0 c ws := (sortK_is pe nd srt).trans r.sorted
      subst ees
      generalize e4 : upd H2 l (.lst (((row0 c ws).map fun w => w.1).map V.str)) = H4
      have s4 : Same H2 H4 := by rw [← e4]; exact same_upd hl
      have el : H4 l = some (.lst (((row0 c ws).map fun w => w.1).map V.str)) := by rw [← e4]; exact upd_same
      clear e4
      have nlL : l ≠ L := fun z => by rw [z, e2] at hl; cases hl
      refine q_itl el ?_
      refine u_list (xs := ((row0 c ws).map fun w => w.1).map V.str) (fun i σ H' => ∃ x y us, σ = [some (V.ref d), some (V.ref L), x, y, none, none, none] ∧ H' L = some (.lst us) ∧ PtB H' us (headT c ws ++ (ws.take (i - 1)).map partT) ∧ Same H H' ∧ H' l = some (.lst (((row0 c ws).map fun w => w.1).map V.str)))
        ⟨_, _, vs, rfl, s4 _ _ e2, by rw [Nat.zero_sub, List.take_zero, List.map_nil, List.append_nil]; exact p2.mono (fun b xs e => s4 _ _ e), s2.trans s4, el⟩ (fun i σ H' _ z => by obtain ⟨_, _, _, _, _, _, _, z⟩ := z; exact .inl (.inl z)) ?_ ?_
      · rintro i x σ H5 hx ⟨x0, y0, us, rfl, e5, p5, s5, l5⟩
        rw [List.getElem?_map, List.getElem?_map] at hx
        obtain ⟨y1, hy1, rfl⟩ := Option.map_eq_some_iff.mp hx
        obtain ⟨y, hy, rfl⟩ := Option.map_eq_some_iff.mp hy1
        have hym : y ∈ row0 c ws := List.mem_of_getElem? hy
        obtain ⟨q, vq, hq⟩ := get y hym
        have nq := r.num y hym
        have g5 := s5 _ _ hq
        have pl := p5.length
        have hh : (headT c ws).length ≤ 1 := by unfold headT; split <;> simp
        rw [List.length_append, List.length_map, List.length_take] at pl
        repeat walk_at "rd"
        refine ⟨d, _, rfl, .inl ⟨kvs, .inr y.1, .inl (s5 _ _ hd), rfl, vq.symm⟩, ?_⟩
        repeat walk_at "rd"
        refine ⟨d, _, rfl, .inl ⟨kvs, .inr y.1, .inl (s5 _ _ hd), rfl, vq.symm⟩, ?_⟩
        repeat walk_at "rd"
        refine r_new (by show 2 ≤ 100000; decide) (fun z H6 hz s6 e6 _ => ?_)
        rw [abs_nat] at e6
        have e6L := s6 _ _ e5
        have s60 := s5.trans s6
        have g6 := s6 _ _ g5
        repeat walk_at "rd"
        refine r_ndec (fun en => ?_) (fun en => ?_)
        · cases i with
          | zero => cases hy; exact absurd rfl en
          | succ j =>
            have hy : ws[j]? = some y := hy
            have lw := r.lwa y (List.mem_of_getElem? hy)
            have ysym := (names7_ok _ (r.nm y (List.mem_of_getElem? hy))).1
            have sl := symB_len ysym
            repeat walk_at "rd"
            refine ⟨d, _, rfl, .inl ⟨kvs, .inr y.1, .inl (s60 _ _ hd), rfl, vq.symm⟩, ?_⟩
            repeat walk_at "rd"
            refine r_new (by show 2 ≤ 100000; decide) (fun o H7 ho s7 e7 _ => ?_)
            have e7L := s7 _ _ e6L
            have pt : partT y = (sgn y.2.1, if (((y.2.1.natAbs : Nat) : Int) = 1 ∧ y.2.2 = 1) then y.1 else amtS ((y.2.1.natAbs : Nat) : Int) y.2.2 ++ " " ++ y.1) := by
              unfold partT
              rw [unsT_abs (t := y.2.1) (b := y.2.2) lw, Str.empty_append]
              by_cases h : (((y.2.1.natAbs : Nat) : Int) = 1 ∧ y.2.2 = 1)
              · rw [if_pos h, if_pos (amtS_one.mpr h)]
              · rw [if_neg h, if_neg (fun z => h (amtS_one.mp z))]
            have nz : Sz 1900 ((y.2.1.natAbs : Nat) : Int) := nq.2.1.le (by omega)
            have al : (amtS ((y.2.1.natAbs : Nat) : Int) y.2.2).length ≤ 4000 := amtS_len nz nq.2.2
            have fin : ∀ H8 p z, Same H7 H8 → H8 p = some (.tup [.bl (decide (y.2.1 < 0)), .str z]) → (partT y).2 = z → PtB (upd H8 L (.lst (us ++ [.ref p]))) (us ++ [.ref p]) (headT c ws ++ (ws.take (j + 1 + 1 - 1)).map partT) ∧ Same H (upd H8 L (.lst (us ++ [.ref p]))) ∧ upd H8 L (.lst (us ++ [.ref p])) l = some (.lst (((row0 c ws).map fun w => w.1).map V.str)) := fun H8 p z s8 e8 ez => by
              have e8L := s8 _ _ e7L
              have nt : ∀ b xs, H8 b = some (.tup xs) → upd H8 L (.lst (us ++ [.ref p])) b = some (.tup xs) := fun b xs e => by rw [upd_ne (fun z => by rw [z, e8L] at e; cases e)]; exact e
              refine ⟨?_, same_put ((s60.trans s7).trans s8) hL (fun b hb => upd_ne hb), by rw [upd_ne nlL]; exact s8 _ _ (s7 _ _ (s6 _ _ l5))⟩
              rw [show j + 1 + 1 - 1 = j + 1 from rfl, List.take_add_one, hy, List.map_append, ← List.append_assoc]
              have e9 := nt _ _ e8
              have ep : partT y = (sgn y.2.1, z) := by rw [← ez]; rfl
              show PtB _ _ (_ ++ [partT y])
              rw [ep]
              exact (p5.mono fun b xs e => nt _ _ (s8 _ _ (s7 _ _ (s6 _ _ e)))).snoc (by rw [e9, show decide (sgn y.2.1 < 0) = decide (y.2.1 < 0) from decide_eq_decide.mpr sgn_neg])
            have usl : us.length < sizeLine := Nat.lt_of_lt_of_le (by omega : us.length < 100) (by decide)
            refine r_eqPair (s7 _ _ e6) e7 ?_
            refine ⟨_, rfl, ?_⟩
            refine r_dec (fun et => ?_) (fun et => ?_)
            · repeat walk_at "rd"
              refine r_new (by show 2 ≤ 100000; decide) (fun p H8 hp8 s8 e8 _ => ?_)
              refine r_nil ?_
              refine r_append (s8 _ _ e7L) usl ?_
              have ez : (partT y).2 = y.1 := by rw [pt, if_pos et]
              obtain ⟨f1, f2, f3⟩ := fin _ _ _ s8 e8 ez
              exact ⟨_, _, _, rfl, upd_same, f1, f2, f3⟩
            · repeat walk_at "rd"
              refine ⟨z, _, _, rfl, s7 _ _ e6, nz, nq.2.2, ?_⟩
              repeat walk_at "rd"
              refine ⟨_, _, rfl, rfl, by walk_at "len", ?_⟩
              repeat walk_at "rd"
              refine ⟨_, _, rfl, rfl, by walk_at "len", ?_⟩
              repeat walk_at "rd"
              refine r_new (by show 2 ≤ 100000; decide) (fun p H8 hp8 s8 e8 _ => ?_)
              refine r_nil ?_
              refine r_append (s8 _ _ e7L) usl ?_
              have ez : (partT y).2 = amtS ((y.2.1.natAbs : Nat) : Int) y.2.2 ++ " " ++ y.1 := by rw [pt, if_neg et]
              obtain ⟨f1, f2, f3⟩ := fin _ _ _ s8 e8 ez
              exact ⟨_, _, _, rfl, upd_same, f1, f2, f3⟩
        · have i0 : i = 0 := by
            cases i with
            | zero => rfl
            | succ j => exact absurd en (names7_ok _ (r.nm y (List.mem_of_getElem? (show ws[j]? = some y from hy)))).2.2
          subst i0
          repeat walk_at "rd"
          exact ⟨_, _, us, rfl, e6L, p5.mono (fun b xs e => s6 _ _ e), s60, s6 _ _ l5⟩
      · rintro σ H5 ⟨x0, y0, us, rfl, e5, p5, s5, l5⟩
        rw [List.length_map, List.length_map, List.length_cons, Nat.add_sub_cancel, List.take_length] at p5
        have ne : headT c ws ++ ws.map partT ≠ [] := by
          unfold headT
          cases ws with
          | nil => rw [if_pos (.inr rfl)]; simp
          | cons _ _ => simp
        have lens : ∀ p ∈ headT c ws ++ ws.map partT, p.2.length ≤ 4100 := fun p h => by
          have n0 := r.num _ List.mem_cons_self
          rcases List.mem_append.mp h with h | h
          · unfold headT at h
            split at h
            · rw [List.mem_singleton] at h
              rw [h]
              exact Nat.le_trans (unsT_len n0.1 n0.2.1 n0.2.2) (by decide)
            · cases h
          · obtain ⟨y, hy, rfl⟩ := List.mem_map.mp h
            obtain ⟨y0, z1, z2⟩ := r.num y (List.mem_cons_of_mem _ hy)
            exact partT_len (names7_ok _ (r.nm y hy)).1 y0 z1 z2
        have cnt : (headT c ws ++ ws.map partT).length ≤ 64 := by
          have hh : (headT c ws).length ≤ 1 := by unfold headT; split <;> simp
          rw [List.length_append, List.length_map]
          omega
        have fin : formT c ws = joinT (headT c ws ++ ws.map partT) := rfl
        rw [fin] at k
        clear fin
        generalize headT c ws ++ ws.map partT = pq at *
        cases p5 with
        | nil => exact absurd rfl ne
        | @cons q0 t0 z0 vr pr e0 r0 =>
        have l0 := lens _ List.mem_cons_self
        have z0l : z0.length ≤ 4100 := l0
        have rl := r0.length
        rw [List.length_cons] at cnt
        repeat walk_at "rd"
        refine r_ixL (.inl (.inl e5)) (show atI (V.ref q0 :: vr) ((0 : Nat) : Int) = some (V.ref q0) from atI_nat rfl) ?_
        repeat walk_at "rd"
        have rest : ∀ z, z = (if t0 < 0 then "-" ++ z0 else z0) → tSeq
                       (tFor (iList K (tSl (rSlL K) (tVar 1) (tPart (tC (V.int 1))) tNoPart))
                         (gTup K 2 (gCons (gName 5) (gCons (gName 6) gNil)))
                         (tAsg
                           (tOp
                             (fun x y H Q =>
                               ∃ i j, x = V.str i ∧ y = V.str j ∧ i.length + j.length ≤ sizeLine ∧ Q (V.str (i ++ j)) H)
                             (tOp
                               (fun x y H Q =>
                                 ∃ i j, x = V.str i ∧ y = V.str j ∧ i.length + j.length ≤ sizeLine ∧ Q (V.str (i ++ j)) H)
                               (tVar 4)
                               (tIf (tB (tVar 5)) (tC (V.str (Str.ofString " - "))) (tC (V.str (Str.ofString " + ")))))
                             (tVar 6))
                           (gName 4)))
                       (tRet (tVar 4)) { nx := fun x H' => Q V.non H', rt := Q } [some (V.ref d), some (V.ref L), x0, y0, some (V.str z), none, none] H5 := fun z ez => by
          have zl : z.length ≤ 4101 := by
            rw [ez]
            split
            · walk_at "len"
            · omega
          have ez' : z = (if t0 < 0 then Str.empty ++ "-" ++ z0 else z0) := by rw [ez, Str.empty_append]
          repeat walk_at "rd"
          refine r_slice ?_
          repeat walk_at "rd"
          refine r_part ?_
          repeat walk_at "rd"
          refine ⟨1, rfl, r_noPart ⟨L, _, rfl, .inl (.inl e5), fun p hp => ?_⟩⟩
          rw [cut1]
          generalize e6 : upd H5 p (.lst vr) = H6
          have s6 : Same H5 H6 := fun b o eb => by rw [← e6, upd_ne (ne_of_none eb hp)]; exact eb
          have e6' : H6 p = some (.lst vr) := by rw [← e6, upd_same]
          clear e6
          have r6 := r0.mono fun b xs eb => s6 _ _ eb
          refine ⟨p, rfl, ⟨vr, .inl (.inl e6')⟩, u_list (xs := vr) (fun i σ H' => ∃ acc x5 x6, σ = [some (V.ref d), some (V.ref L), x0, y0, some (V.str acc), x5, x6] ∧ acc = (pr.take i).foldl moreT z ∧ acc.length ≤ 4101 + 4103 * i ∧ H' = H6) ⟨z, _, _, rfl, rfl, by omega, rfl⟩ (fun i σ H' _ h => by obtain ⟨_, _, _, _, _, _, e⟩ := h; rw [e]; exact .inl (.inl e6')) ?_ ?_⟩
          · rintro i x σ H' hx ⟨acc, x5, x6, rfl, ea, la, rfl⟩
            obtain ⟨q, t1, z1, rfl, eq1, e1⟩ := r6.get i x hx
            have hi : i < pr.length := (List.getElem?_eq_some_iff.mp eq1).1
            have z1l : z1.length ≤ 4100 := lens _ (List.mem_cons_of_mem _ (List.mem_of_getElem? eq1))
            have nxt : (pr.take (i + 1)).foldl moreT z = moreT acc (t1, z1) := by
              rw [List.take_add_one, eq1, List.foldl_append, ← ea]
              rfl
            have nl : (moreT acc (t1, z1)).length ≤ 4101 + 4103 * (i + 1) := by
              have m := moreT_len (acc := acc) (p := (t1, z1))
              have : (t1, z1).2.length ≤ 4100 := z1l
              omega
            refine r_gtup (.inl (.inl e1)) (by rfl) ?_
            repeat walk_at "rd"
            refine r_dec (fun et => ?_) (fun et => ?_)
            · have eo : moreT acc (t1, z1) = acc ++ " - " ++ z1 := by unfold moreT; rw [if_pos et, Str.empty_append]
              repeat walk_at "rd"
              refine ⟨_, _, rfl, rfl, by walk_at "len", ?_⟩
              repeat walk_at "rd"
              refine ⟨_, _, rfl, rfl, by walk_at "len", ?_⟩
              repeat walk_at "rd"
              exact ⟨_, _, _, rfl, by rw [nxt, eo], by rw [eo] at nl; exact nl, rfl⟩
            · have eo : moreT acc (t1, z1) = acc ++ " + " ++ z1 := by unfold moreT; rw [if_neg et, Str.empty_append]
              repeat walk_at "rd"
              refine ⟨_, _, rfl, rfl, by walk_at "len", ?_⟩
              repeat walk_at "rd"
              refine ⟨_, _, rfl, rfl, by walk_at "len", ?_⟩
              repeat walk_at "rd"
              exact ⟨_, _, _, rfl, by rw [nxt, eo], by rw [eo] at nl; exact nl, rfl⟩
          · rintro σ H' ⟨acc, x5, x6, rfl, ea, la, rfl⟩
            rw [rl, List.take_length] at ea
            have ej : acc = joinT ((t0, z0) :: pr) := by
              rw [ea, ez']
              rfl
            rw [← ej] at k
            repeat walk_at "rd"
            exact k _ (s5.trans s6) (by omega)
        refine r_dec (fun et => ?_) (fun et => ?_)
        · repeat walk_at "rd"
          refine r_ixL (.inl (.inl e5)) (show atI (V.ref q0 :: vr) ((0 : Nat) : Int) = some (V.ref q0) from atI_nat rfl) ?_
          repeat walk_at "rd"
          refine ⟨_, _, rfl, rfl, by walk_at "len", ?_⟩
          walk_at "rd"
          exact rest _ (by rw [if_pos et])
        · refine r_op ?_
          refine r_op ?_
          walk_at "rdv"
          refine r_c ?_
          refine r_ixL (.inl (.inl e5)) (show atI (V.ref q0 :: vr) ((0 : Nat) : Int) = some (V.ref q0) from atI_nat rfl) ?_
          refine r_c ?_
          refine r_ixT (.inl (.inl e0)) (by rfl) ?_
          walk_at "rd"
          exact rest _ (by rw [if_neg et])

end
/-! ### rows joined and scaled, as the law does it -/
def sgA (g : Int) (u : Int × Int) : Int × Int := (u.1 * g, u.2)
def sgW (g : Int) (ws : Ws) : Ws := ws.map fun w => (w.1, sgA g w.2)
theorem sgW_keys {g : Int} {ws : Ws} : (sgW g ws).map (fun w => w.1) = ws.map fun w => w.1 := by
  unfold sgW
  rw [List.map_map]
  rfl
theorem sgA_lw {g : Int} {u : Int × Int} (hg : g = 1 ∨ g = -1) (h : Lw u) : Lw (sgA g u) := by
  unfold sgA
  rcases hg with rfl | rfl
  · rw [Int.mul_one]; exact h
  · rw [show u.1 * -1 = -u.1 from by omega]; exact h.neg
theorem sgW_lw {g : Int} {ws : Ws} (hg : g = 1 ∨ g = -1) (h : LwA ws) : LwA (sgW g ws) := fun w hw => by
  obtain ⟨y, hy, rfl⟩ := List.mem_map.mp hw
  exact sgA_lw hg (h y hy)
def lawOne (F : Ws) (w : Str × Int × Int) : Ws := putW F w.1 (sumA (wsGet F w.1) w.2)
theorem wsGet_no {F : Ws} {z : Str} (h : F.any (fun w => decide (w.1 = z)) = false) : wsGet F z = (0, 1) := by
  induction F with
  | nil => rfl
  | cons y r ih =>
    rw [List.any_cons, Bool.or_eq_false_iff] at h
    rw [wsGet_cons, if_neg (of_decide_eq_false h.1)]
    exact ih h.2
theorem sumA_0 {u : Int × Int} (h : Lw u) : sumA (0, 1) u = u := by
  show low (0 * u.2 + u.1 * 1) (1 * u.2) = u
  rw [Int.zero_mul, Int.zero_add, Int.mul_one, Int.one_mul]
  exact h.2
theorem lawOne_eq {F : Ws} {w : Str × Int × Int} (h : Lw w.2) : lawOne F w = addOne F w := by
  unfold lawOne addOne
  by_cases e : F.any (fun y => decide (y.1 = w.1)) = true
  · rw [if_pos e]
  · rw [if_neg e, wsGet_no (Bool.eq_false_iff.mpr e), sumA_0 h]
theorem putW_row0 {c u : Int × Int} {ws : Ws} (h : ∀ w ∈ ws, w.1 ≠ "") : putW (row0 c ws) "" u = row0 u ws := by
  unfold putW
  rw [if_pos (by rw [List.any_cons, decide_eq_true rfl]; rfl), List.map_cons, if_pos rfl]
  congr 1
  conv => rhs; rw [← List.map_id ws]
  refine List.map_congr_left fun w hw => ?_
  rw [if_neg (h w hw)]
  rfl
theorem putW_rowN {c u : Int × Int} {ws : Ws} {z : Str} (h : z ≠ "") : putW (row0 c ws) z u = row0 c (putW ws z u) := by
  unfold putW
  have e : ((row0 c ws).any fun w => decide (w.1 = z)) = ws.any fun w => decide (w.1 = z) := by
    rw [List.any_cons, decide_eq_false (fun q => h q.symm), Bool.false_or]
  rw [e]
  split
  · rw [List.map_cons, if_neg (fun q => h q.symm)]
  · rfl
theorem wsGet_row0 {c : Int × Int} {ws : Ws} : wsGet (row0 c ws) "" = c := by rw [wsGet_cons, if_pos rfl]
theorem wsGet_rowN {c : Int × Int} {ws : Ws} {z : Str} (h : z ≠ "") : wsGet (row0 c ws) z = wsGet ws z := by rw [wsGet_cons, if_neg (fun q => h q.symm)]
theorem sumA_lw {u v : Int × Int} (h : u.2 ≠ 0) (h' : v.2 ≠ 0) : Lw (sumA u v) := low_lw (Int.mul_ne_zero h h')
theorem sumA_sz {n : Nat} {u v : Int × Int} (h : u.2 ≠ 0) (h' : v.2 ≠ 0) (a1 : Sz n u.1) (a2 : Sz n u.2) (b1 : Sz n v.1) (b2 : Sz n v.2) : (sumA u v).2 ≠ 0 ∧ Sz (n + n + 1) (sumA u v).1 ∧ Sz (n + n + 1) (sumA u v).2 :=
  low_ok (Int.mul_ne_zero h h') (((a1.mul b2).add (b1.mul a2)).mono (by omega)) ((a2.mul b2).mono (by omega))
theorem wsGet_P {P : Int × Int → Prop} {ws : Ws} {z : Str} (h0 : P (0, 1)) (h : ∀ w ∈ ws, P w.2) : P (wsGet ws z) := by
  cases e : ws.any (fun w => decide (w.1 = z)) with
  | true =>
    obtain ⟨w, hw, _, e2⟩ := wsGet_mem e
    rw [e2]
    exact h w hw
  | false => rw [wsGet_no e]; exact h0
theorem putW_P {P : Int × Int → Prop} {ws : Ws} {z : Str} {u : Int × Int} (hu : P u) (h : ∀ w ∈ ws, P w.2) : ∀ w ∈ putW ws z u, P w.2 := fun w hw => by
  unfold putW at hw
  split at hw
  · obtain ⟨y, hy, rfl⟩ := List.mem_map.mp hw
    split
    · exact hu
    · exact h y hy
  · rcases List.mem_append.mp hw with h1 | h1
    · exact h w h1
    · rw [List.mem_singleton.mp h1]; exact hu
/-- adding keeps to the weights' own: each name of the second is met once -/
theorem addW_P {P Q : Int × Int → Prop} (hPQ : ∀ u, P u → Q u) (hs : ∀ u v, P u → P v → Q (sumA u v)) : ∀ {l ws : Ws}, (l.map fun w => w.1).Nodup → (∀ w ∈ l, P w.2) → (∀ w ∈ ws, (w.1 ∈ (l.map fun w => w.1) → P w.2) ∧ Q w.2) → ∀ w ∈ addW ws l, Q w.2
  | [], ws, _, _, h => fun w hw => (h w hw).2
  | y :: r, ws, nd, hl, h => by
    rw [List.map_cons, List.nodup_cons] at nd
    refine addW_P hPQ hs (l := r) (ws := addOne ws y) nd.2 (fun w hw => hl w (List.mem_cons_of_mem _ hw)) fun w hw => ?_
    have hy := hl y List.mem_cons_self
    have hu : Q (if ws.any (fun q => decide (q.1 = y.1)) then sumA (wsGet ws y.1) y.2 else y.2) := by
      split
      · rename_i e
        obtain ⟨w2, hw2, e1, e2⟩ := wsGet_mem e
        rw [e2]
        exact hs _ _ ((h w2 hw2).1 (by rw [e1]; exact List.mem_cons_self)) hy
      · exact hPQ _ hy
    unfold addOne at hw
    generalize (if ws.any (fun q => decide (q.1 = y.1)) then sumA (wsGet ws y.1) y.2 else y.2) = uu at hw hu
    unfold putW at hw
    split at hw
    · obtain ⟨q, hq, rfl⟩ := List.mem_map.mp hw
      split
      · rename_i e2
        refine ⟨fun m => ?_, hu⟩
        exact absurd (by rw [← e2]; exact m) nd.1
      · exact ⟨fun m => (h q hq).1 (List.mem_cons_of_mem _ m), (h q hq).2⟩
    · rcases List.mem_append.mp hw with h1 | h1
      · exact ⟨fun m => (h w h1).1 (List.mem_cons_of_mem _ m), (h w h1).2⟩
      · rw [List.mem_singleton.mp h1]
        exact ⟨fun m => absurd m nd.1, hu⟩
theorem sgA_sz {n : Nat} {g : Int} {u : Int × Int} (hg : g = 1 ∨ g = -1) (h : u.2 ≠ 0 ∧ Sz n u.1 ∧ Sz n u.2) : (sgA g u).2 ≠ 0 ∧ Sz n (sgA g u).1 ∧ Sz n (sgA g u).2 := by
  refine ⟨h.1, ?_, h.2.2⟩
  unfold sgA
  rcases hg with rfl | rfl
  · rw [Int.mul_one]; exact h.2.1
  · rw [show u.1 * -1 = -u.1 from by omega]; exact h.2.1.neg
def joinC (g : Int) (c c2 : Int × Int) : Int × Int := sumA c (sgA g c2)
def joinW (g : Int) (ws ws2 : Ws) : Ws := canon (addW ws (sgW g ws2))
theorem nd_sg {n : Nat} {g : Int} {c : Int × Int} {ws : Ws} (h : ROk n c ws) : ((sgW g ws).map fun w => w.1).Nodup := by rw [sgW_keys]; exact h.cn.2
theorem addW_all {n : Nat} {g : Int} {c : Int × Int} {ws ws2 : Ws} (hg : g = 1 ∨ g = -1) (h : ROk n c ws) (nd : (ws2.map fun w => w.1).Nodup) (lw : LwA ws2) (nu : NumA n ws2) : (∀ w ∈ addW ws (sgW g ws2), Lw w.2 ∧ w.2.2 ≠ 0 ∧ Sz (n + n + 1) w.2.1 ∧ Sz (n + n + 1) w.2.2) := by
  refine addW_P (P := fun u => Lw u ∧ u.2 ≠ 0 ∧ Sz n u.1 ∧ Sz n u.2) (Q := fun u => Lw u ∧ u.2 ≠ 0 ∧ Sz (n + n + 1) u.1 ∧ Sz (n + n + 1) u.2) (fun u h => ⟨h.1, h.2.1, h.2.2.1.mono (by omega), h.2.2.2.mono (by omega)⟩) (fun u v h h' => ⟨sumA_lw h.2.1 h'.2.1, sumA_sz h.2.1 h'.2.1 h.2.2.1 h.2.2.2 h'.2.2.1 h'.2.2.2⟩) (by rw [sgW_keys]; exact nd) (fun w hw => ?_) (fun w hw => ?_)
  · obtain ⟨y, hy, rfl⟩ := List.mem_map.mp hw
    exact ⟨sgA_lw hg (lw y hy), sgA_sz hg (nu y hy)⟩
  · have a := h.lwa w hw
    have b := h.num w (List.mem_cons_of_mem _ hw)
    exact ⟨fun _ => ⟨a, b⟩, a, b.1, b.2.1.mono (by omega), b.2.2.mono (by omega)⟩
theorem ROk.join {n : Nat} {g : Int} {c c2 : Int × Int} {ws ws2 : Ws} (hg : g = 1 ∨ g = -1) (h : ROk n c ws) (h2 : ROk n c2 ws2) : ROk (n + n + 1) (joinC g c c2) (joinW g ws ws2) := by
  have all := addW_all hg h h2.cn.2 h2.lwa fun w hw => h2.num w (List.mem_cons_of_mem _ hw)
  have ks := addW_keys (l := sgW g ws2) h.cn.2
  have n0 := h.num _ List.mem_cons_self
  have n2 := sgA_sz hg (h2.num _ List.mem_cons_self)
  refine ⟨sumA_lw n0.1 n2.1, fun w hw => (all w (canon_mem hw).1).1, canon_idem ks.1, fun w hw => ?_, fun w hw => ?_⟩
  · rcases ks.2.2 w.1 (List.mem_map.mpr ⟨w, (canon_mem hw).1, rfl⟩) with m | m
    · obtain ⟨y, hy, e⟩ := List.mem_map.mp m
      rw [← e]; exact h.nm y hy
    · rw [sgW_keys] at m
      obtain ⟨y, hy, e⟩ := List.mem_map.mp m
      rw [← e]; exact h2.nm y hy
  · rcases List.mem_cons.mp hw with rfl | hw
    · exact sumA_sz n0.1 n2.1 n0.2.1 n0.2.2 n2.2.1 n2.2.2
    · exact (all w (canon_mem hw).1).2
theorem negA_lw {c : Int × Int} (h : Lw c) : negA c = sgA (-1) c := by
  unfold negA
  rw [Int.mul_one, show c.1 * -1 = -c.1 from by omega, h.neg.2]
  unfold sgA
  rw [show c.1 * -1 = -c.1 from by omega]
theorem negW_lw {ws : Ws} (h : LwA ws) (hc : Cn ws) : negW ws = sgW (-1) ws := by
  have e : mulW ws (-1) 1 = sgW (-1) ws := by
    unfold mulW sgW
    refine List.map_congr_left fun w hw => ?_
    have := negA_lw (h w hw)
    unfold negA at this
    rw [this]
  unfold negW
  rw [e]
  unfold sgW
  rw [canon_map (g := fun w => (w.1, sgA (-1) w.2)) (fun _ => rfl) (fun w _ => ?_) hc.2, hc.1]
  unfold sgA
  show w.2.1 * -1 = 0 ↔ _
  omega
/-- scaled by a number in lowest terms -/
theorem mulW_all {n m : Nat} {c : Int × Int} {ws : Ws} {t b : Int} (h : ROk n c ws) (b0 : b ≠ 0) (z1 : Sz m t) (z2 : Sz m b) : ∀ w ∈ mulW ws t b, Lw w.2 ∧ w.2.2 ≠ 0 ∧ Sz (n + m) w.2.1 ∧ Sz (n + m) w.2.2 := fun w hw => by
  obtain ⟨y, hy, rfl⟩ := mulW_mem hw
  have ny := h.num y (List.mem_cons_of_mem _ hy)
  have n0 : y.2.2 * b ≠ 0 := Int.mul_ne_zero ny.1 b0
  exact ⟨low_lw n0, low_ok n0 (ny.2.1.mul z1) (ny.2.2.mul z2)⟩
theorem ROk.scale {n m : Nat} {c : Int × Int} {ws : Ws} {t b : Int} (h : ROk n c ws) (b0 : b ≠ 0) (z1 : Sz m t) (z2 : Sz m b) : ROk (n + m) (low (c.1 * t) (c.2 * b)) (canon (mulW ws t b)) := by
  have all := mulW_all h b0 z1 z2
  have n0 := h.num _ List.mem_cons_self
  have c0 : c.2 * b ≠ 0 := Int.mul_ne_zero n0.1 b0
  have ndm : ((mulW ws t b).map fun w => w.1).Nodup := by rw [mulW_keys]; exact h.cn.2
  refine ⟨low_lw c0, fun w hw => (all w (canon_mem hw).1).1, canon_idem ndm, fun w hw => ?_, fun w hw => ?_⟩
  · have m : w.1 ∈ (mulW ws t b).map fun w => w.1 := List.mem_map.mpr ⟨w, (canon_mem hw).1, rfl⟩
    rw [mulW_keys] at m
    obtain ⟨y, hy, e⟩ := List.mem_map.mp m
    rw [← e]; exact h.nm y hy
  · rcases List.mem_cons.mp hw with rfl | hw
    · exact low_ok c0 (n0.2.1.mul z1) (n0.2.2.mul z2)
    · exact (all w (canon_mem hw).1).2
theorem addW_stepL {g : Int} {ws ws2 : Ws} {j : Nat} {y : Str × Int × Int} (hg : g = 1 ∨ g = -1) (ey : ws2[j]? = some y) (h : Lw y.2) : addW ws (sgW g (ws2.take (j + 1))) = putW (addW ws (sgW g (ws2.take j))) y.1 (sumA (wsGet (addW ws (sgW g (ws2.take j))) y.1) (sgA g y.2)) := by
  have e : ∀ n, sgW g (ws2.take n) = (sgW g ws2).take n := fun n => List.map_take ..
  have ey2 : (sgW g ws2)[j]? = some (y.1, sgA g y.2) := by
    unfold sgW
    rw [List.getElem?_map, ey]
    rfl
  rw [e, e, addW_snoc ey2, ← lawOne_eq (sgA_lw hg h)]
  rfl
theorem r_dget2 {td ty tx : TE} {σ : L2.St} {H : Hp} {Q : VK} (q : td σ H fun x H1 => ∃ a, x = .ref a ∧ IsD H1 a ∧ ty σ H1 fun y H2 => tx σ H2 fun z H3 => ∃ o, DGet H3 a y o ∧ Q (o.getD z) H3) : tDGet2 td ty tx σ H Q := q
theorem numA_get {n : Nat} {ws : Ws} {z : Str} (h : NumA n ws) : (wsGet ws z).2 ≠ 0 ∧ Sz (n + 1) (wsGet ws z).1 ∧ Sz (n + 1) (wsGet ws z).2 :=
  wsGet_P (P := fun u => u.2 ≠ 0 ∧ Sz (n + 1) u.1 ∧ Sz (n + 1) u.2) ⟨by decide, by unfold Sz; exact Nat.two_pow_pos _, by
    unfold Sz
    show 1 < 2 ^ (n + 1)
    exact Nat.one_lt_two_pow (by omega)⟩ fun w hw => ⟨(h w hw).1, (h w hw).2.1.mono (by omega), (h w hw).2.2.mono (by omega)⟩
def sp_joined : Sp := fun vs H Q _ => ∃ d d2 g, ∃ c c2 : Int × Int, ∃ ws ws2 : Ws, vs = [.ref d, .ref d2, .int g] ∧ RowAt H d (row0 c ws) ∧ RowAt H d2 (row0 c2 ws2) ∧ (g = 1 ∨ g = -1) ∧ ROk 700 c ws ∧ ROk 700 c2 ws2 ∧ ∀ p H', H p = none → Same H H' → RowAt H' p (row0 (joinC g c c2) (joinW g ws ws2)) → Q (.ref p) H'
def sp_scaled : Sp := fun vs H Q _ => ∃ d q t b, ∃ c : Int × Int, ∃ ws : Ws, vs = [.ref d, .ref q] ∧ RowAt H d (row0 c ws) ∧ TupAt H q t b ∧ b ≠ 0 ∧ Sz 700 t ∧ Sz 700 b ∧ ROk 700 c ws ∧ ∀ p H', H p = none → Same H H' → RowAt H' p (row0 (low (c.1 * t) (c.2 * b)) (canon (mulW ws t b))) → Q (.ref p) H'

section
variable {P : Program} {w : World} {K : PySem.W.Frag} {mg : Str → Option Value} {base : Heap}
theorem sc_l_joined : FnScope ["_law_row", "_law_other", "_law_sign", "_law_found", "_law_name", "_law_pair_here"] ["_law_row", "_law_other", "_law_sign"] (defScope s_l_joined) := ⟨rfl, rfl, rfl, by decide +kernel, rfl, by decide +kernel, by decide +kernel⟩
theorem ok_l_joined (T : Tx K mg) : FnG P w K mg base CX0 true 3 (He.ga K "_law_joined") T.fd_l_joined ["_law_row", "_law_other", "_law_sign"] (sp_joined) := by
  refine funG T.F_l_joined sc_l_joined (fun vs H Q E h => ?_) (fun cdv A outer s H vs Q E hr hg h => ?_)
  · obtain ⟨d, d2, g, c, c2, ws, ws2, e, _⟩ := h; rw [e]; rfl
  · obtain ⟨d, d2, g, c, c2, ws, ws2, rfl, ⟨kvs, hd, hp⟩, ⟨kvs2, hd2, hp2⟩, hg1, r, r2, k⟩ := h
    refine ⟨_, (pss_cons (ps_set (i := 3) sc_l_joined.nd rfl (by first | exact Or.inl rfl | exact Or.inr rfl) (pe_callTy (call_dictP rfl) (by rfl) T.m_dict (by decide +kernel) (pa_cons (pe_lock (pe_lc (own := [("_law_name", 4), ("_law_pair_here", 5)]) (by rfl) sc_l_joined.nd (pi_items (pv 0)) (blkOk_by (own := [("_law_name", 4), ("_law_pair_here", 5)]) (N := ["_law_row", "_law_other", "_law_sign", "_law_found", "_law_name", "_law_pair_here"]) (sc := defScope s_l_joined) (by decide +kernel)) (fun _ _ _ _ _ => (pg_tupK (K' := K) (n := 2) (by rfl) (pgs_cons (pg_name (i := 4) sc_l_joined.nd rfl (by first | exact Or.inl rfl | exact Or.inr rfl)) (pgs_cons (pg_name (i := 5) sc_l_joined.nd rfl (by first | exact Or.inl rfl | exact Or.inr rfl)) pgs_nil)))) (fun _ _ _ _ _ => pts_nil) (fun _ _ _ _ _ => (pe_tup (pa_cons (pv 4) (pa_cons (pv 5) pa_nil)))))) pa_nil)))
    (pss_cons (ps_lock (ps_for PassesOwn.never (by rfl) (pi_items (pv 1)) (pg_tupK (K' := K) (n := 2) (by rfl) (pgs_cons (pg_name (i := 4) sc_l_joined.nd rfl (by first | exact Or.inl rfl | exact Or.inr rfl)) (pgs_cons (pg_name (i := 5) sc_l_joined.nd rfl (by first | exact Or.inl rfl | exact Or.inr rfl)) pgs_nil))) (pss_one (ps_dput (Nat.lt_of_le_of_lt (Nat.add_le_add_left (by decide : 1 ≤ 64) _) hr.units) (pv 3) (pv 4) (pg_call (ok_l_sum T) (hr.mono (by decide)) hg (by rfl) T.g_l_sum T.F_l_sum.kp T.b_l_sum .nil pass0 (pa_cons (pe_dget2 (Nat.lt_of_le_of_lt (Nat.add_le_add_left (by decide : 1 ≤ 64) _) hr.units) (pv 3) (pv 4) (pe_tup (pa_cons pe_int (pa_cons pe_int pa_nil))) ⟨by rfl, by rfl, by rfl, by rfl⟩) (pa_cons (pe_tup (pa_cons (pe_op op_mulW (pe_ix (ix_tupK (K' := K)) (pv 5) pe_int (fun _ _ => rfl)) (pv 2)) (pa_cons (pe_ix (ix_tupK (K' := K)) (pv 5) pe_int (fun _ _ => rfl)) pa_nil))) pa_nil))) (by rfl)))))
    (pss_one (ps_ret (pg_call (ok_l_clean T) (hr.mono (by decide)) hg (by rfl) T.g_l_clean T.F_l_clean.kp T.b_l_clean .nil pass0 (pa_cons (pv 3) pa_nil)))))), ?_⟩
    have ndk : (kvs.map (·.1)).Nodup := nodup_keys hp.keysI r.nd0
    have kl := hp.length
    have kl2 := hp2.length
    have fw := r.few
    have fw2 := r2.few
    rw [List.length_cons] at kl kl2
    walk_at "st"
    repeat walk_at "rd"
    refine r_lockE hd trivial (fun od H1 e1 ne1 => ?_)
    repeat walk_at "rd"
    refine r_items ?_
    repeat walk_at "rd"
    have up : ∀ {b o}, H b = some o → b ≠ d → H1 b = some o := fun {b o} e hb => by rw [ne1 b hb]; exact e
    refine ⟨d, od, kvs, rfl, e1, u_lcI (fun D H2 hD s2 e2 _ => ⟨fun i H' => ∃ ps : List Addr, H' D = some (.lst (ps.map V.ref)) ∧ Paired (fun p (kv : Key × V) => H' p = some (.tup [kV kv.1, kv.2])) ps (kvs.take i) ∧ H' d = some (.frz od (.dK kvs)) ∧ ∀ b, b ≠ d → ∀ o, H b = some o → H' b = some o,
      ⟨[], e2, .nil, s2 _ _ e1, fun b hb o eb => s2 _ _ (up eb hb)⟩, (fun i H' _ z => by obtain ⟨_, _, _, f, _⟩ := z; exact f), ?_, ?_⟩)⟩
    · rintro i key v T H3 H4 hi ⟨ps, e3, p3, f3, k3⟩ hT s4 e4 ne4
      have hil : i < kvs.length := (List.getElem?_eq_some_iff.mp hi).1
      refine r_gtup (.inl (.inl e4)) (by rfl) ?_
      repeat walk_at "rd"
      refine ⟨rfl, ?_⟩
      refine r_tY ?_
      rw [if_pos rfl]
      repeat walk_at "rd"
      refine r_new (by show 2 ≤ 100000; decide) (fun t H6 ht s6 e6 _ => ?_)
      have e36 := s6 _ _ (s4 _ _ e3)
      have pl : ps.length = (kvs.take i).length := Paired.length p3
      rw [List.length_take] at pl
      refine g_grow e36 (by rw [List.length_map]; omega) (fun H7 e7 ne7 => ?_)
      have nDd : D ≠ d := fun z => by rw [z, f3] at e3; cases e3
      have keepT : ∀ b xs, H6 b = some (.tup xs) → H7 b = some (.tup xs) := fun b xs eb => by rw [ne7 b (fun z => by rw [z, e36] at eb; cases eb)]; exact eb
      refine ⟨ps ++ [t], by rw [e7, List.map_append]; rfl, ?_, by rw [ne7 d nDd.symm]; exact s6 _ _ (s4 _ _ f3), fun b hb o eb => ?_⟩
      · rw [List.take_add_one, hi]
        exact pair_app (L2.Paired.mapP p3 fun p kv h => keepT _ _ (s6 _ _ (s4 _ _ h))) (keepT _ _ e6)
      · rw [ne7 b (fun z => by
          rw [z] at eb
          have := up eb nDd
          rw [hD] at this
          cases this)]
        exact s6 _ _ (s4 _ _ (k3 b hb o eb))
    · rintro H3 ⟨ps, e3, p3, f3, k3⟩
      refine ⟨f3, ?_⟩
      have nDd : D ≠ d := fun z => by rw [z, f3] at e3; cases e3
      have sH : Same H (upd H3 d (.dK kvs)) := same_back hd k3
      have e4 : upd H3 d (.dK kvs) D = some (.lst (ps.map V.ref)) := by rw [upd_ne nDd]; exact e3
      have p4 : Paired (fun p (kv : Key × V) => upd H3 d (.dK kvs) p = some (.tup [kV kv.1, kv.2])) ps kvs := by
        rw [List.take_of_length_le (Nat.le_refl _)] at p3
        exact L2.Paired.mapP p3 fun p kv h => by rw [upd_ne (fun z => by rw [z, f3] at h; cases h)]; exact h
      generalize upd H3 d (.dK kvs) = H4 at *
      clear e3 p3 f3 k3 e1 ne1 e2 s2
      repeat walk_at "rd"
      refine ⟨D, ps, kvs, rfl, .inl (.inl e4), L2.Paired.mapP p4 fun p kv h => .inl (.inl h), fun P hP => ?_⟩
      rw [merge_nil ndk]
      generalize e5' : upd H4 P (.dK kvs) = H5
      have s5 : Same H H5 := sH.trans (by rw [← e5']; exact same_upd hP)
      have e5 : H5 P = some (.dK kvs) := by rw [← e5']; exact upd_same
      clear e5'
      have hPH : H P = none := same_none sH hP
      clear p4 e4 nDd
      repeat walk_at "rd"
      refine r_lockS (s5 _ _ hd2) trivial (fun od2 H6 e6 ne6 => ?_)
      have nPd2 : P ≠ d2 := (ne_of_none hd2 hPH).symm
      repeat walk_at "rd"
      refine r_items ?_
      repeat walk_at "rd"
      have hp5 := hp.same s5
      have hT5 : ∀ {a t b}, TupAt H5 a t b → TupAt H6 a t b := fun {a t b} h => by
        unfold TupAt at h ⊢
        rw [ne6 a (fun z => by rw [z, s5 _ _ hd2] at h; cases h)]
        exact h
      refine ⟨d2, od2, kvs2, rfl, e6, u_items (fun i σ H' => ∃ fk x4 x5, σ = [some (V.ref d), some (V.ref d2), some (V.int g), some (V.ref P), x4, x5] ∧ H' P = some (.dK fk) ∧ PsAt H' fk (row0 (if i = 0 then c else joinC g c c2) (addW ws (sgW g (ws2.take (i - 1))))) ∧ H' d2 = some (.frz od2 (.dK kvs2)) ∧ ∀ b, b ≠ d2 → ∀ o, H b = some o → H' b = some o)
        ⟨kvs, _, _, rfl, by rw [ne6 P nPd2]; exact e5, hp5.mono (fun a t b h => hT5 h), e6, fun b hb o eb => by rw [ne6 b hb]; exact s5 _ _ eb⟩ (fun i σ H' _ z => by obtain ⟨_, _, _, _, _, _, f, _⟩ := z; exact f) ?_ ?_⟩
      · rintro i key v' σ T4 H7 H8 hi ⟨fk, x4, x5, rfl, e7, p7, f7, k7⟩ hT s8 e8 ne8
        obtain ⟨y, q, ey, rfl, rfl, hq⟩ := hp2.get2 i key v' hi
        have hi2 := (List.getElem?_eq_some_iff.mp ey).1
        have g7 : H7 q = some (.tup [.int y.2.1, .int y.2.2]) := k7 q (fun z => by unfold TupAt at hq; rw [z, hd2] at hq; cases hq) _ hq
        have g8 := s8 _ _ g7
        have ny := r2.num y (List.mem_of_getElem? ey)
        refine r_gtup (.inl (.inl e8)) (by rfl) ?_
        dsimp only [L2.kV]
        repeat walk_at "rd"
        refine r_dput ?_
        repeat walk_at "rd"
        refine r_dget2 ?_
        repeat walk_at "rd"
        have e8P := s8 _ _ e7
        refine ⟨P, rfl, .inl ⟨fk, .inl e8P⟩, ?_⟩
        repeat walk_at "rd"
        refine r_new (by show 2 ≤ 100000; decide) (fun pz H9 hpz s9 e9 _ => ?_)
        have e9P := s9 _ _ e8P
        have p9 := (p7.same s8).same s9
        have jn := ROk.join hg1 r r2
        have nF : NumA 1401 (row0 (if i = 0 then c else joinC g c c2) (addW ws (sgW g (ws2.take (i - 1))))) := fun w hw => by
          rcases List.mem_cons.mp hw with rfl | hw
          · show (ite _ _ _ : Int × Int).2 ≠ 0 ∧ _
            split
            · have := r.num _ List.mem_cons_self
              exact ⟨this.1, this.2.1.mono (by decide), this.2.2.mono (by decide)⟩
            · exact jn.num _ List.mem_cons_self
          · exact (addW_all hg1 r (by rw [List.map_take]; exact r2.cn.2.sublist (List.take_sublist ..)) (fun w hw => r2.lwa w (List.mem_of_mem_take hw)) (fun w hw => r2.num w (List.mem_cons_of_mem _ (List.mem_of_mem_take hw))) w hw).2
        have nG := numA_get (z := y.1) nF
        generalize eF : row0 (if i = 0 then c else joinC g c c2) (addW ws (sgW g (ws2.take (i - 1)))) = F at *
        obtain ⟨qa, eo, hqa⟩ : ∃ qa, (valV fk (.inr y.1)).getD (.ref pz) = .ref qa ∧ TupAt H9 qa (wsGet F y.1).1 (wsGet F y.1).2 := by
          rcases p9.get (z := y.1) with ⟨e1, e2, _⟩ | ⟨a, e1, ha⟩
          · rw [e1, e2]
            exact ⟨pz, rfl, e9⟩
          · rw [e1]
            exact ⟨a, rfl, ha⟩
        refine ⟨_, .inl ⟨fk, .inr y.1, .inl e9P, rfl, rfl⟩, ?_⟩
        rw [eo]
        have g9 := s9 _ _ g8
        have zg : Sz 1 g := by rcases hg1 with rfl | rfl <;> (unfold Sz; decide)
        repeat walk_at "rd"
        refine r_I (Sz.cm ny.2.1 zg (by decide) (by decide) (by decide)) ?_
        repeat walk_at "rd"
        refine r_new (by show 2 ≤ 100000; decide) (fun pw H10 hpw s10 e10 _ => ?_)
        repeat walk_at "rd"
        have ns := sgA_sz hg1 ny
        refine ⟨qa, pw, (wsGet F y.1).1, (wsGet F y.1).2, (sgA g y.2).1, (sgA g y.2).2, rfl, hqa.same s10, e10, nG.1, ns.1, ⟨nG.2.1.mono (by decide), nG.2.2.mono (by decide), ns.2.1.mono (by decide), ns.2.2.mono (by decide)⟩, fun u H11 hu s11 t11 => ?_⟩
        have e11 := s11 _ _ (s10 _ _ e9P)
        have s8b := ((s8.trans s9).trans s10).trans s11
        have pl := p9.length
        have aw := (addW_keys (l := sgW g (ws2.take (i - 1))) r.cn.2).2.1
        have lw2 : (sgW g (ws2.take (i - 1))).length ≤ ws2.length := by unfold sgW; rw [List.length_map]; exact List.length_take_le' ..
        have lF : F.length ≤ 60 := by rw [← eF, List.length_cons]; omega
        repeat walk_at "rd"
        refine ⟨P, _, rfl, .inl ⟨fk, .inr y.1, e11, rfl, Nat.lt_of_lt_of_le (by omega : fk.length < 100) (by decide), rfl⟩, ?_⟩
        refine ⟨_, _, _, rfl, upd_same, ?_, by rw [upd_ne nPd2.symm]; exact s8b _ _ f7, fun b hb o eb => by rw [upd_ne (ne_of_none eb hPH)]; exact s8b _ _ (k7 b hb o eb)⟩
        have pp := (((p9.same s10).same s11).put (z := y.1) (u := sumA (wsGet F y.1) (sgA g y.2)) t11).mono (H' := upd H11 P (.dK (putK fk (.inr y.1) (.ref u)))) fun a t b h => h.off e11 (fun b hb => upd_ne hb)
        have en : putW F y.1 (sumA (wsGet F y.1) (sgA g y.2)) = row0 (if i + 1 = 0 then c else joinC g c c2) (addW ws (sgW g (ws2.take (i + 1 - 1)))) := by
          rw [← eF]
          cases i with
          | zero =>
            cases ey
            rw [if_pos rfl, wsGet_row0]
            show putW (row0 c ws) "" (sumA c (sgA g c2)) = row0 (joinC g c c2) ws
            rw [putW_row0 (fun w hw => (names7_ok _ (r.nm w hw)).2.2)]
            rfl
          | succ j =>
            have ey : ws2[j]? = some y := ey
            have ym := List.mem_of_getElem? ey
            have yn := (names7_ok _ (r2.nm y ym)).2.2
            rw [wsGet_rowN yn, putW_rowN yn]
            show row0 (joinC g c c2) _ = row0 (joinC g c c2) (addW ws (sgW g (ws2.take (j + 1))))
            rw [addW_stepL hg1 ey (r2.lwa y ym)]
            rfl
        rw [en] at pp
        exact pp
      · rintro σ H7 ⟨fk, x4, x5, rfl, e7, p7, f7, k7⟩
        repeat walk_at "rd"
        refine ⟨f7, ?_⟩
        rw [kl2, if_neg (by omega : ¬ ws2.length + 1 = 0), Nat.add_sub_cancel, List.take_length] at p7
        have sH7 : Same H (upd H7 d2 (.dK kvs2)) := same_back hd2 k7
        have p8 : PsAt (upd H7 d2 (.dK kvs2)) fk (row0 (joinC g c c2) (addW ws (sgW g ws2))) := p7.mono fun a t b h => by
          unfold TupAt at h ⊢
          rw [upd_ne (fun z => by rw [z, f7] at h; cases h)]
          exact h
        have e8 : upd H7 d2 (.dK kvs2) P = some (.dK fk) := by rw [upd_ne nPd2]; exact e7
        generalize upd H7 d2 (.dK kvs2) = H8 at *
        have all := addW_all hg1 r r2.cn.2 r2.lwa fun w hw => r2.num w (List.mem_cons_of_mem _ hw)
        have jn := ROk.join hg1 r r2
        have ks := addW_keys (l := sgW g ws2) r.cn.2
        have lw2 : (sgW g ws2).length = ws2.length := by unfold sgW; rw [List.length_map]
        repeat walk_at "rd"
        refine ⟨P, joinC g c c2, addW ws (sgW g ws2), rfl, ⟨fk, e8, p8⟩, ?_, by omega, fun w hw => ?_, fun p H9 hp9 s9 hr => ?_⟩
        · rw [List.map_cons, List.nodup_cons]
          refine ⟨fun m => ?_, ks.1⟩
          rcases ks.2.2 _ m with m | m
          · obtain ⟨w, hw, e⟩ := List.mem_map.mp m
            exact (names7_ok _ (r.nm w hw)).2.2 e
          · rw [sgW_keys] at m
            obtain ⟨w, hw, e⟩ := List.mem_map.mp m
            exact (names7_ok _ (r2.nm w hw)).2.2 e
        · rcases List.mem_cons.mp hw with rfl | hw
          · have := jn.num _ List.mem_cons_self
            exact ⟨this.1, this.2.1.mono (by decide), this.2.2.mono (by decide)⟩
          · have := (all w hw).2
            exact ⟨this.1, this.2.1.mono (by decide), this.2.2.mono (by decide)⟩
        · rw [jn.lw.2, mapLow_id (LwA.canon fun w hw => (all w hw).1)] at hr
          exact k p H9 (same_none sH7 hp9) (sH7.trans s9) hr
theorem sc_l_scaled : FnScope ["_law_row", "_law_pair_here", "_law_name", "_law_one"] ["_law_row", "_law_pair_here"] (defScope s_l_scaled) := ⟨rfl, rfl, rfl, by decide +kernel, rfl, by decide +kernel, by decide +kernel⟩
theorem ok_l_scaled (T : Tx K mg) : FnG P w K mg base CX0 true 3 (He.ga K "_law_scaled") T.fd_l_scaled ["_law_row", "_law_pair_here"] (sp_scaled) := by
  refine funG T.F_l_scaled sc_l_scaled (fun vs H Q E h => ?_) (fun cdv A outer s H vs Q E hr hg h => ?_)
  · obtain ⟨d, q, t, b, c, ws, e, _⟩ := h; rw [e]; rfl
  · obtain ⟨d, q, t, b, c, ws, rfl, ⟨kvs, hd, hp⟩, hq, b0, z1, z2, r, k⟩ := h
    refine ⟨_, (pss_one (ps_ret (pg_call (ok_l_clean T) (hr.mono (by decide)) hg (by rfl) T.g_l_clean T.F_l_clean.kp T.b_l_clean .nil pass0 (pa_cons (pe_callTy (call_dictP rfl) (by rfl) T.m_dict (by decide +kernel) (pa_cons (pe_lock (pe_lc (own := [("_law_name", 2), ("_law_one", 3)]) (by rfl) sc_l_scaled.nd (pi_items (pv 0)) (blkOk_by (own := [("_law_name", 2), ("_law_one", 3)]) (N := ["_law_row", "_law_pair_here", "_law_name", "_law_one"]) (sc := defScope s_l_scaled) (by decide +kernel)) (fun _ _ _ _ _ => (pg_tupK (K' := K) (n := 2) (by rfl) (pgs_cons (pg_name (i := 2) sc_l_scaled.nd rfl (by first | exact Or.inl rfl | exact Or.inr rfl)) (pgs_cons (pg_name (i := 3) sc_l_scaled.nd rfl (by first | exact Or.inl rfl | exact Or.inr rfl)) pgs_nil)))) (fun _ _ _ _ _ => pts_nil) (fun _ _ _ _ _ => (pe_tup (pa_cons (pv 2) (pa_cons (pg_call (ok_l_product T) (hr.mono (by decide)) hg (by rfl) T.g_l_product T.F_l_product.kp T.b_l_product .nil pass0 (pa_cons (pv 3) (pa_cons (pv 1) pa_nil))) pa_nil)))))) pa_nil)) pa_nil)))), ?_⟩
    have kl := hp.length
    have fw := r.few
    rw [List.length_cons] at kl
    walk_at "st"
    repeat walk_at "rd"
    refine r_lockE hd trivial (fun od H1 e1 ne1 => ?_)
    repeat walk_at "rd"
    refine r_items ?_
    repeat walk_at "rd"
    have up : ∀ {b o}, H b = some o → b ≠ d → H1 b = some o := fun {b o} e hb => by rw [ne1 b hb]; exact e
    refine ⟨d, od, kvs, rfl, e1, u_lcI (fun D H2 hD s2 e2 _ => ⟨fun i H' => ∃ ps : List Addr, ∃ akvs, H' D = some (.lst (ps.map V.ref)) ∧ Paired (fun p (kv : Key × V) => H' p = some (.tup [kV kv.1, kv.2])) ps akvs ∧ PsAt H' akvs (mulW ((row0 c ws).take i) t b) ∧ H' d = some (.frz od (.dK kvs)) ∧ ∀ b, b ≠ d → ∀ o, H b = some o → H' b = some o,
      ⟨[], [], e2, .nil, .nil, s2 _ _ e1, fun b hb o eb => s2 _ _ (up eb hb)⟩, (fun i H' _ z => by obtain ⟨_, _, _, _, _, f, _⟩ := z; exact f), ?_, ?_⟩)⟩
    · rintro i key v T H3 H4 hi ⟨ps, akvs, e3, p3, w3, f3, k3⟩ hT s4 e4 ne4
      obtain ⟨y, q1, ey, rfl, rfl, hq1⟩ := hp.get2 i key v hi
      have hil : i < (row0 c ws).length := (List.getElem?_eq_some_iff.mp ey).1
      have g3 : TupAt H3 q1 y.2.1 y.2.2 := k3 q1 (fun z => by unfold TupAt at hq1; rw [z, hd] at hq1; cases hq1) _ hq1
      have g3q : TupAt H3 q t b := k3 q (fun z => by unfold TupAt at hq; rw [z, hd] at hq; cases hq) _ hq
      have ny := r.num y (List.mem_of_getElem? ey)
      refine r_gtup (.inl (.inl e4)) (by rfl) ?_
      dsimp only [L2.kV]
      repeat walk_at "rd"
      refine ⟨rfl, ?_⟩
      refine r_tY ?_
      rw [if_pos rfl]
      repeat walk_at "rd"
      refine ⟨q1, q, y.2.1, y.2.2, t, b, rfl, g3.same s4, g3q.same s4, ny.1, b0, ⟨ny.2.1.mono (by decide), ny.2.2.mono (by decide), z1.mono (by decide), z2.mono (by decide)⟩, fun a H5 ha s5 hA => ?_⟩
      repeat walk_at "rd"
      refine r_new (by show 2 ≤ 100000; decide) (fun t1 H6 ht s6 e6 _ => ?_)
      have e36 := s6 _ _ (s5 _ _ (s4 _ _ e3))
      have pl : ps.length = akvs.length := Paired.length p3
      have wl := w3.length
      unfold mulW at wl
      rw [List.length_map, List.length_take] at wl
      rw [List.length_cons] at hil wl
      refine g_grow e36 (by rw [List.length_map]; omega) (fun H7 e7 ne7 => ?_)
      have nDd : D ≠ d := fun z => by rw [z, f3] at e3; cases e3
      have keepT : ∀ b xs, H6 b = some (.tup xs) → H7 b = some (.tup xs) := fun b xs eb => by rw [ne7 b (fun z => by rw [z, e36] at eb; cases eb)]; exact eb
      refine ⟨ps ++ [t1], akvs ++ [(.inr y.1, .ref a)], by rw [e7, List.map_append]; rfl, ?_, ?_, by rw [ne7 d nDd.symm]; exact s6 _ _ (s5 _ _ (s4 _ _ f3)), fun b hb o eb => ?_⟩
      · refine pair_app (L2.Paired.mapP p3 fun p kv h => keepT _ _ (s6 _ _ (s5 _ _ (s4 _ _ h)))) ?_
        exact keepT _ _ e6
      · rw [mulW_snoc ey]
        exact (w3.mono fun a t b h => keepT _ _ (((h.same s4).same s5).same s6)).snoc (keepT _ _ (hA.same s6))
      · rw [ne7 b (fun z => by
          rw [z] at eb
          have := up eb nDd
          rw [hD] at this
          cases this)]
        exact s6 _ _ (s5 _ _ (s4 _ _ (k3 b hb o eb)))
    · rintro H3 ⟨ps, akvs, e3, p3, w3, f3, k3⟩
      refine ⟨f3, ?_⟩
      have nDd : D ≠ d := fun z => by rw [z, f3] at e3; cases e3
      have sH : Same H (upd H3 d (.dK kvs)) := same_back hd k3
      have e4 : upd H3 d (.dK kvs) D = some (.lst (ps.map V.ref)) := by rw [upd_ne nDd]; exact e3
      have p4 : Paired (fun p (kv : Key × V) => upd H3 d (.dK kvs) p = some (.tup [kV kv.1, kv.2])) ps akvs := L2.Paired.mapP p3 fun p kv h => by rw [upd_ne (fun z => by rw [z, f3] at h; cases h)]; exact h
      have w4 : PsAt (upd H3 d (.dK kvs)) akvs (row0 (low (c.1 * t) (c.2 * b)) (mulW ws t b)) := by
        rw [kl, show (row0 c ws).take (ws.length + 1) = row0 c ws from List.take_of_length_le (by simp)] at w3
        exact w3.mono fun a t b h => by
          unfold TupAt at h ⊢
          rw [upd_ne (fun z => by rw [z, f3] at h; cases h)]; exact h
      generalize upd H3 d (.dK kvs) = H4 at *
      clear e3 p3 w3 f3 k3 e1 ne1 e2 s2
      have n0 := r.num _ List.mem_cons_self
      have all := mulW_all r b0 z1 z2
      have ndm : ((row0 (low (c.1 * t) (c.2 * b)) (mulW ws t b)).map fun w => w.1).Nodup := by
        rw [List.map_cons, mulW_keys]; exact r.nd0
      have ndA : (akvs.map (·.1)).Nodup := nodup_keys w4.keysI ndm
      repeat walk_at "rd"
      refine ⟨D, ps, akvs, rfl, .inl (.inl e4), L2.Paired.mapP p4 fun p kv h => .inl (.inl h), fun P hP => ?_⟩
      rw [merge_nil ndA]
      generalize e5' : upd H4 P (.dK akvs) = H5
      have s5 : Same H4 H5 := by rw [← e5']; exact same_upd hP
      have e5 : H5 P = some (.dK akvs) := by rw [← e5']; exact upd_same
      clear e5'
      have hPH : H P = none := same_none sH hP
      have c0 : c.2 * b ≠ 0 := Int.mul_ne_zero n0.1 b0
      refine r_nil ?_
      refine ⟨P, low (c.1 * t) (c.2 * b), mulW ws t b, rfl, ⟨akvs, e5, w4.same s5⟩, ndm, by unfold mulW; rw [List.length_map]; omega, fun w hw => ?_, fun p H6 hp6 s6 hr => ?_⟩
      · rcases List.mem_cons.mp hw with rfl | hw
        · have l := low_ok c0 (n0.2.1.mul z1) (n0.2.2.mul z2)
          exact ⟨l.1, l.2.1.mono (by decide), l.2.2.mono (by decide)⟩
        · have l := all w hw
          exact ⟨l.2.1, l.2.2.1.mono (by decide), l.2.2.2.mono (by decide)⟩
      · rw [(low_lw c0).2, mapLow_id (LwA.canon fun w hw => (all w hw).1)] at hr
        exact k p H6 (same_none (sH.trans s5) hp6) ((sH.trans s5).trans s6) hr

end
/-! ### a form and its row are told alike -/
theorem u_lcKt {σ : L2.St} {H1 : Hp} {Q : VK} {g : TG} {tt : TT} {te : TE} {is : List Nat} {d : Addr} {o : Obj} {kvs : List (Key × V)} (q : ∀ D H0, H1 D = none → Same H1 H0 → H0 D = some (.lst []) → (∀ b, b ≠ D → H0 b = H1 b) → ∃ Pv : Nat → Hp → Prop, Pv 0 H0 ∧ (∀ i H, i ≤ kvs.length → Pv i H → H d = some (.frz o (.dK kvs))) ∧
    (∀ i k v H, kvs[i]? = some (k, v) → Pv i H → g (kV k) (wipe σ is) H fun σ2 H3 => wipe σ2 is = wipe σ is ∧ tt σ2 H3 fun b H4 =>
      if b = true then te σ2 H4 (Grow D (Pv (i + 1))) else Pv (i + 1) H4) ∧ ∀ H, Pv kvs.length H → Q (.ref D) H) : LcK g tt te is σ Q (Itk d o kvs) H1 := by
  intro D hD
  obtain ⟨Pv, h0, hl, hs, hd⟩ := q D _ hD (same_upd hD) upd_same fun b hb => upd_ne hb
  refine ⟨fun i m H => m = kvs.length - i ∧ i ≤ kvs.length ∧ Pv i H, ⟨kvs.length, by simp, Nat.zero_le _, h0⟩, ?_⟩
  rintro i m H ⟨rfl, hi, p⟩
  have st := hl i H hi p
  by_cases hlt : i < kvs.length
  · refine .inr ⟨⟨st, hlt⟩, Pv (i + 1), fun H' p' => ⟨kvs.length - (i + 1), by omega, rfl, hlt, p'⟩, fun x H' y => ?_⟩
    obtain ⟨rfl, k, v, e, rfl⟩ := y
    exact hs i k v H' e p
  · have e : i = kvs.length := by omega
    subst e
    exact .inl ⟨⟨st, Nat.le_refl _⟩, hd H p⟩
theorem ROk.srt {n : Nat} {c : Int × Int} {ws : Ws} (h : ROk n c ws) : sortK (fun w => w.1) ws = ws := by
  have pw : ws.Pairwise fun a b => leS a.1 b.1 = true := by
    rw [← h.cn.1]
    exact (sortK_pw (f := fun w : Str × Int × Int => w.1) (l := ws)).sublist List.filter_sublist
  refine List.Perm.eq_of_pairwise (le := fun a b => leS a.1 b.1 = true) (fun a b ha hb h1 h2 => ?_) sortK_pw pw sortK_perm
  exact inj_of_nodup (f := fun w : Str × Int × Int => w.1) h.cn.2 (sortK_perm.mem_iff.mp ha) hb (leS_anti h1 h2)
theorem strs_shw : ∀ xs : List Str, (∀ x ∈ xs, Asc x ∧ x.length ≤ 24) → shwAll (xs.map PyData.str) ∧ ascAll (xs.map PyData.str) ∧ szAll (xs.map PyData.str) ≤ xs.length * 250 ∧ PyData.depthAll (xs.map PyData.str) = 0
  | [], _ => by simp [shwAll, ascAll, szAll, PyData.depthAll]
  | x :: xs, h => by
    have ih := strs_shw xs fun y hy => h y (List.mem_cons_of_mem _ hy)
    have hx := h x List.mem_cons_self
    simp only [List.map_cons, shwAll, ascAll, szAll, PyData.depthAll, shwB, ascD, szD, PyData.depth]
    refine ⟨⟨hx.1.ok8, ih.1⟩, ⟨hx.1, ih.2.1⟩, ?_, ?_⟩
    · have := ih.2.2.1
      rw [List.length_cons]
      omega
    · rw [ih.2.2.2]; rfl
theorem names7_asc : ∀ z ∈ names7, Asc z ∧ z.length ≤ 24 := fun z hz => ⟨asc_by (by revert z; decide +kernel), by revert z; decide +kernel⟩
theorem rpa_strs {K : PySem.W.Frag} {H : Hp} {p : Addr} {xs : List Str} (h : H p = some (.lst (xs.map V.str))) (nm : ∀ x ∈ xs, x ∈ names7) (l : xs.length ≤ 7) : RpA K H (.ref p) (PyData.shown (.list (xs.map PyData.str))) := by
  have s := strs_shw xs fun x hx => names7_asc x (nm x hx)
  refine rpa (.lst (.inl (.inl h)) (dp_strs xs)) (by simp only [shwB]; exact s.1) (by simp only [ascD]; exact s.2.1) ?_ ?_
  · simp only [PyData.depth, s.2.2.2]; decide
  · simp only [szD]
    have := s.2.2.1
    omega
theorem asc_amtS {t b : Int} : Asc (amtS t b) := by
  unfold amtS
  split
  · exact asc_int t
  · exact Asc.app (Asc.app (Asc.app (asc_by (by decide +kernel)) (asc_int t)) (asc_by (by decide +kernel))) (asc_int b)
theorem asc_amtR {t b : Int} : Asc (amtR t b) := by
  unfold amtR
  exact Asc.app (Asc.app (Asc.app (Asc.app (Asc.app (asc_by (by decide +kernel)) (asc_by (by decide +kernel))) (asc_int t)) (asc_by (by decide +kernel))) (asc_int b)) (asc_by (by decide +kernel))
theorem asc_unsT {u : Int × Int} : Asc (unsT u) := by unfold unsT; split <;> exact asc_amtS
theorem asc_partT {w : Str × Int × Int} (h : Asc w.1) : Asc (partT w).2 := by
  unfold partT
  dsimp only
  split
  · exact h
  · exact Asc.app (Asc.app (Asc.app (asc_by (by decide +kernel)) asc_unsT) (asc_by (by decide +kernel))) h
theorem asc_moreT {acc : Str} {p : Int × Str} (h : Asc acc) (hp : Asc p.2) : Asc (moreT acc p) := by
  unfold moreT
  split <;> exact Asc.app (Asc.app (Asc.app (asc_by (by decide +kernel)) h) (asc_by (by decide +kernel))) hp
theorem asc_foldT : ∀ (l : List (Int × Str)) (acc : Str), Asc acc → (∀ p ∈ l, Asc p.2) → Asc (l.foldl moreT acc)
  | [], _, h, _ => h
  | p :: r, acc, h, hl => asc_foldT r _ (asc_moreT h (hl p List.mem_cons_self)) fun q hq => hl q (List.mem_cons_of_mem _ hq)
theorem asc_joinT {l : List (Int × Str)} (h : ∀ p ∈ l, Asc p.2) : Asc (joinT l) := by
  cases l with
  | nil => exact asc_by (by decide +kernel)
  | cons p r =>
    refine asc_foldT r _ ?_ fun q hq => h q (List.mem_cons_of_mem _ hq)
    have hp := h p List.mem_cons_self
    split
    · exact Asc.app (Asc.app (asc_by (by decide +kernel)) (asc_by (by decide +kernel))) hp
    · exact hp
theorem asc_formT {c : Int × Int} {ws : Ws} (h : ∀ w ∈ ws, w.1 ∈ names7) : Asc (formT c ws) := by
  refine asc_joinT fun p hp => ?_
  rcases List.mem_append.mp hp with m | m
  · unfold headT at m
    split at m
    · rw [List.mem_singleton.mp m]; exact asc_unsT
    · cases m
  · obtain ⟨w, hw, rfl⟩ := List.mem_map.mp m
    exact asc_partT (names7_asc _ (h w hw)).1
theorem asc_bText (b : Bool) : Asc (bText b) := by cases b <;> exact asc_by (by decide +kernel)
theorem r_strs6 {K : PySem.W.Frag} {H : Hp} {Q : VK} {a b : Addr} {xs : List Str} (ha : H a = some (.lst (xs.map V.str))) (hb : H b = some (.lst (xs.map V.str))) (hx : ∀ x ∈ xs, Asc x) (q : Q (.bl false) H) : rNeD K (.ref a) (.ref b) H Q :=
  r_neDs (.lst (.inl (.inl ha)) (dp_strs xs)) (.lst (.inl (.inl hb)) (dp_strs xs)) (shaped_strs hx) q
theorem frmF_no (ca d : Addr) {m : Str} (h1 : ¬ m = "_weights") (h2 : ¬ m = "_constant") : (frmF ca d).lookup m = none := by
  unfold frmF
  rw [lookup_putF, if_neg h1, lookup_putF, if_neg h2]
  rfl
theorem q_methF {K : PySem.W.Frag} {H : Hp} {a : Addr} {c : Int × Int} {ws : Ws} {m : Str} {A : Prop} (h : FrmAt K H a c ws) (h1 : ¬ m = "_weights") (h2 : ¬ m = "_constant") (q : A) : ∃ a' dx fs, V.ref a = .ref a' ∧ H a' = some (.ins (He.ga K "Form") dx fs) ∧ fs.lookup m = none ∧ A := let ⟨dx, ca, d, kvs, e, _⟩ := h; ⟨a, dx, _, rfl, e, frmF_no ca d h1 h2, q⟩
theorem q_propF {K : PySem.W.Frag} {H : Hp} {a : Addr} {c : Int × Int} {ws : Ws} {A : Addr → Prop} (h : FrmAt K H a c ws) (q : A a) : ∃ a' dx fs, V.ref a = .ref a' ∧ H a' = some (.ins (He.ga K "Form") dx fs) ∧ A a' := let ⟨dx, ca, d, kvs, e, _⟩ := h; ⟨a, dx, _, rfl, e, q⟩
def asked : List Str := ["3.1", "a", "a.b", "ab", "b", "z9", "q"]
theorem asked_ok : ∀ z ∈ asked, symB z = true ∧ z.length ≤ sizeLine ∧ z ≠ "" := by decide +kernel
def sp_lis (K : PySem.W.Frag) : Sp := fun vs H Q _ => ∃ a d, ∃ c : Int × Int, ∃ ws : Ws, vs = [.ref a, .ref d] ∧ FrmAt K H a c ws ∧ RowAt H d (row0 c ws) ∧ ROk 1500 c ws ∧ ∀ H', Same H H' → Q (.bl true) H'

section
variable {P : Program} {w : World} {K : PySem.W.Frag} {mg : Str → Option Value} {base : Heap}
theorem sc_l_is : FnScope ["_law_form_here", "_law_row", "_law_names", "_law_name", "_law_found", "_law_told", "_law_due", "_law_flat", "_law_weights"] ["_law_form_here", "_law_row"] (defScope s_l_is) := ⟨rfl, rfl, rfl, by decide +kernel, rfl, by decide +kernel, by decide +kernel⟩
theorem ok_l_is (T : Tx K mg) : FnG P w K mg base CX0 true 11 (He.ga K "_law_is") T.fd_l_is ["_law_form_here", "_law_row"] (sp_lis K) := by
  refine funG T.F_l_is sc_l_is (fun vs H Q E h => ?_) (fun cdv A outer s H vs Q E hr hg h => ?_)
  · obtain ⟨a, d, c, ws, e, _⟩ := h; rw [e]; rfl
  · obtain ⟨a, d, c, ws, rfl, ha, ⟨kvs, hd, hp⟩, r, k⟩ := h
    refine ⟨_, (pss_cons (ps_set (i := 2) sc_l_is.nd rfl (by first | exact Or.inl rfl | exact Or.inr rfl) (pe_callB cr_sortedS (by rfl) T.m_sorted (by decide +kernel) (pa_cons (pe_lock (pe_lc (own := [("_law_name", 3)]) (by rfl) sc_l_is.nd (pi_keys (pv 1)) (blkOk_by (own := [("_law_name", 3)]) (N := ["_law_form_here", "_law_row", "_law_names", "_law_name", "_law_found", "_law_told", "_law_due", "_law_flat", "_law_weights"]) (sc := defScope s_l_is) (by decide +kernel)) (fun _ _ _ _ _ => (pg_name (i := 3) sc_l_is.nd rfl (by first | exact Or.inl rfl | exact Or.inr rfl))) (fun _ _ _ _ _ => (pts_one (pt_cmpR op_ne (pv 3) pe_str (nomark _)))) (fun _ _ _ _ _ => (pv 3)))) pa_nil)))
    (pss_cons (ps_set (i := 4) sc_l_is.nd rfl (by first | exact Or.inl rfl | exact Or.inr rfl) (pg_meth0 (pv 0) T.c_Form T.mt_Form_symbols (ok_Form_symbols T) (hr.mono (by decide)) hg T.b_Form_symbols .nil pass0))
    (pss_cons (ps_set (i := 5) sc_l_is.nd rfl (by first | exact Or.inl rfl | exact Or.inr rfl) (pe_lst (pa_cons (pe_callB (cr_reprV hg hr.units) (by rfl) T.m_repr (by decide +kernel) (pa_cons (pv 4) pa_nil)) (pa_cons (pe_callB (cr_reprOwn T.o_Amount_repr (ok_AmountU_reprU T) (hr.mono (by decide)) hg T.b_AmountU_reprU pass0) (by rfl) T.m_repr (by decide +kernel) (pa_cons (pg_prop (pv 0) T.c_Form T.p_Form_constant_part (ok_Form_constant_part T) (hr.mono (by decide)) hg T.b_Form_constant_part .nil pass0 rfl) pa_nil)) (pa_cons (pe_callB cr_reprB (by rfl) T.m_repr (by decide +kernel) (pa_cons (pg_prop (pv 0) T.c_Form T.p_Form_is_constant (ok_Form_is_constant T) (hr.mono (by decide)) hg T.b_Form_is_constant .nil pass0 rfl) pa_nil)) (pa_cons (pe_callTy (cr_strOwn T.o_Form_str (ok_FormU_strU T) (hr.mono (by decide)) hg T.b_FormU_strU pass0) (by rfl) T.m_str (by decide +kernel) (pa_cons (pv 0) pa_nil)) (pa_cons (pe_callB (cr_reprOwn T.o_Form_repr (ok_FormU_reprU T) (hr.mono (by decide)) hg T.b_FormU_reprU pass0) (by rfl) T.m_repr (by decide +kernel) (pa_cons (pv 0) pa_nil)) pa_nil)))))))
    (pss_cons (ps_expr (pe_bm PySem.F.plainAttrs_list PySem.F.slot_list_append PySem.F.type_list_append mt_append (pv 4) (pa_cons pe_str pa_nil)))
    (pss_cons (ps_expr (pe_bm PySem.F.plainAttrs_list PySem.F.slot_list_append PySem.F.type_list_append mt_append (pv 5) (pa_cons (pe_callTy (cr_strOwn T.o_Form_str (ok_FormU_strU T) (hr.mono (by decide)) hg T.b_FormU_strU pass0) (by rfl) T.m_str (by decide +kernel) (pa_cons (pg_prop (pv 0) T.c_Form T.p_Form_linear_part (ok_Form_linear_part T) (hr.mono (by decide)) hg T.b_Form_linear_part .nil pass0 rfl) pa_nil)) pa_nil)))
    (pss_cons (ps_set (i := 6) sc_l_is.nd rfl (by first | exact Or.inl rfl | exact Or.inr rfl) (pe_lst (pa_cons (pe_callB (cr_reprV hg hr.units) (by rfl) T.m_repr (by decide +kernel) (pa_cons (pv 2) pa_nil)) (pa_cons (pg_call (ok_l_shown T) (hr.mono (by decide)) hg (by rfl) T.g_l_shown T.F_l_shown.kp T.b_l_shown .nil pass0 (pa_cons (pe_dget (Nat.lt_of_le_of_lt (Nat.add_le_add_left (by decide : 1 ≤ 64) _) hr.units) (pv 1) pe_str (fun _ _ => rfl)) pa_nil)) (pa_cons (pe_callB cr_reprB (by rfl) T.m_repr (by decide +kernel) (pa_cons (pe_cmpR (op_eqD hr.units) (pv 2) (pe_lst pa_nil) (nomark _)) pa_nil)) (pa_cons (pg_call (ok_l_text T) (hr.mono (by decide)) hg (by rfl) T.g_l_text T.F_l_text.kp T.b_l_text .nil pass0 (pa_cons (pv 1) pa_nil)) (pa_cons (pe_op op_add_str (pe_op op_add_str pe_str (pg_call (ok_l_text T) (hr.mono (by decide)) hg (by rfl) T.g_l_text T.F_l_text.kp T.b_l_text .nil pass0 (pa_cons (pv 1) pa_nil))) pe_str) pa_nil)))))))
    (pss_cons (ps_set (i := 7) sc_l_is.nd rfl (by first | exact Or.inl rfl | exact Or.inr rfl) (pe_callTy call_dictD (by rfl) T.m_dict (by decide +kernel) (pa_cons (pv 1) pa_nil)))
    (pss_cons (ps_dput (Nat.lt_of_le_of_lt (Nat.add_le_add_left (by decide : 1 ≤ 64) _) hr.units) (pv 7) pe_str (pe_tup (pa_cons pe_int (pa_cons pe_int pa_nil))) (by rfl))
    (pss_cons (ps_if (pt_cmpR (op_neD hr.units) (pv 5) (pe_op op_cat (pv 6) (pe_lst (pa_cons (pg_call (ok_l_text T) (hr.mono (by decide)) hg (by rfl) T.g_l_text T.F_l_text.kp T.b_l_text .nil pass0 (pa_cons (pv 7) pa_nil)) pa_nil))) (nomark _)) (pss_one (ps_ret pe_bl)) pss_nil)
    (pss_cons (ps_setLc (i := 8) (own := [("_law_name", 3)]) (by rfl) sc_l_is.nd rfl rfl (sw_true rfl rfl rfl (by decide +kernel)) (pi_list (pe_lst (pa_cons pe_str (pa_cons pe_str (pa_cons pe_str (pa_cons pe_str (pa_cons pe_str (pa_cons pe_str (pa_cons pe_str pa_nil))))))))) (blkOk_by (own := [("_law_name", 3)]) (N := ["_law_form_here", "_law_row", "_law_names", "_law_name", "_law_found", "_law_told", "_law_due", "_law_flat", "_law_weights"]) (sc := defScope s_l_is) (by decide +kernel)) (fun _ _ _ _ _ => (pg_name (i := 3) sc_l_is.nd rfl (by first | exact Or.inl rfl | exact Or.inr rfl))) (fun _ _ _ _ _ => pts_nil) (fun _ _ _ _ _ => (pe_callB (cr_reprOwn T.o_Amount_repr (ok_AmountU_reprU T) (hr.mono (by decide)) hg T.b_AmountU_reprU pass0) (by rfl) T.m_repr (by decide +kernel) (pa_cons (pg_meth (pv 0) T.c_Form T.mt_Form_weight (ok_Form_weight T) (hr.mono (by decide)) hg T.b_Form_weight .nil pass0 (pa_cons (pv 3) pa_nil)) pa_nil))))
    (pss_one (ps_ret (pe_cmpR (op_eqD hr.units) (pv 8) (pe_lc (own := [("_law_name", 3)]) (by rfl) sc_l_is.nd (pi_list (pe_lst (pa_cons pe_str (pa_cons pe_str (pa_cons pe_str (pa_cons pe_str (pa_cons pe_str (pa_cons pe_str (pa_cons pe_str pa_nil))))))))) (blkOk_by (own := [("_law_name", 3)]) (N := ["_law_form_here", "_law_row", "_law_names", "_law_name", "_law_found", "_law_told", "_law_due", "_law_flat", "_law_weights"]) (sc := defScope s_l_is) (by decide +kernel)) (fun _ _ _ _ _ => (pg_name (i := 3) sc_l_is.nd rfl (by first | exact Or.inl rfl | exact Or.inr rfl))) (fun _ _ _ _ _ => pts_nil) (fun _ _ _ _ _ => (pg_call (ok_l_shown T) (hr.mono (by decide)) hg (by rfl) T.g_l_shown T.F_l_shown.kp T.b_l_shown .nil pass0 (pa_cons (pe_dget2 (Nat.lt_of_le_of_lt (Nat.add_le_add_left (by decide : 1 ≤ 64) _) hr.units) (pv 1) (pv 3) (pe_tup (pa_cons pe_int (pa_cons pe_int pa_nil))) ⟨by rfl, by rfl, by rfl, by rfl⟩) pa_nil)))) (nomark _)))))))))))))), ?_⟩
    have fw := r.few
    have kl := hp.length
    have nc := r.num _ List.mem_cons_self
    rw [List.length_cons] at kl
    obtain ⟨q0, v0, h0⟩ : ∃ q, valV kvs (.inr "") = some (.ref q) ∧ TupAt H q c.1 c.2 := by
      rcases hp.get (z := "") with ⟨_, _, h⟩ | ⟨q, e1, h⟩
      · exact absurd List.mem_cons_self h
      · rw [wsGet_row0] at h
        exact ⟨q, e1, h⟩
    walk_at "st"
    repeat walk_at "rd"
    refine r_lockE hd trivial (fun od H1 e1 ne1 => ?_)
    have up : ∀ {b o}, H b = some o → b ≠ d → H1 b = some o := fun {b o} e hb => by rw [ne1 b hb]; exact e
    repeat walk_at "rd"
    refine ⟨d, od, rfl, .inl ⟨kvs, e1, u_lcKt (fun D H2 hD s2 e2 _ => ⟨fun i H' => H' D = some (.lst (((ws.take (i - 1)).map fun w => w.1).map V.str)) ∧ H' d = some (.frz od (.dK kvs)) ∧ ∀ b, b ≠ d → ∀ o, H b = some o → H' b = some o,
      ⟨e2, s2 _ _ e1, fun b hb o eb => s2 _ _ (up eb hb)⟩, (fun i H' _ z => z.2.1), ?_, ?_⟩)⟩⟩
    · rintro i key v H3 hi ⟨e3, f3, k3⟩
      obtain ⟨y, q, ey, rfl, rfl, hq⟩ := hp.get2 i key v hi
      have hil : i < (row0 c ws).length := (List.getElem?_eq_some_iff.mp ey).1
      rw [List.length_cons] at hil
      dsimp only [L2.kV]
      repeat walk_at "rd"
      refine ⟨rfl, ?_⟩
      repeat walk_at "rd"
      have nDd : D ≠ d := fun z => by rw [z, f3] at e3; cases e3
      refine r_ndec (fun en => ?_) (fun en => ?_)
      · cases i with
        | zero => cases ey; exact absurd rfl en
        | succ j =>
          have ey : ws[j]? = some y := ey
          repeat walk_at "rd"
          refine g_grow e3 (by rw [List.length_map, List.length_map, List.length_take]; omega) (fun H7 e7 ne7 => ?_)
          refine ⟨?_, by rw [ne7 d nDd.symm]; exact f3, fun b hb o eb => ?_⟩
          · rw [e7, show j + 1 + 1 - 1 = j + 1 from rfl, List.take_add_one, ey, List.map_append, List.map_append]
            rfl
          · rw [ne7 b (fun z => by
              rw [z] at eb
              have := up eb nDd
              rw [hD] at this
              cases this)]
            exact k3 b hb o eb
      · have i0 : i = 0 := by
          cases i with
          | zero => rfl
          | succ j => exact absurd en (names7_ok _ (r.nm y (List.mem_of_getElem? (show ws[j]? = some y from ey)))).2.2
        subst i0
        exact ⟨e3, f3, k3⟩
    · rintro H3 ⟨e3, f3, k3⟩
      refine ⟨f3, ?_⟩
      have nDd : D ≠ d := fun z => by rw [z, f3] at e3; cases e3
      have sH : Same H (upd H3 d (.dK kvs)) := same_back hd k3
      rw [kl, Nat.add_sub_cancel, List.take_length] at e3
      have e4 : upd H3 d (.dK kvs) D = some (.lst ((ws.map fun w => w.1).map V.str)) := by rw [upd_ne nDd]; exact e3
      generalize upd H3 d (.dK kvs) = H4 at *
      clear e3 f3 k3 e1 ne1 e2 s2 nDd
      repeat walk_at "rd"
      refine ⟨D, ws.map fun w => w.1, rfl, .inl (.inl e4), by rw [List.length_map]; omega, fun ys N pm srt hN => ?_⟩
      obtain ⟨es, pe, rfl⟩ := perm_lift pm ws rfl
      have ees : es = ws := (sortK_is pe r.cn.2 srt).trans r.srt
      rw [ees]
      clear ees pe pm srt es
      generalize e5' : upd H4 N (.lst ((ws.map fun w => w.1).map V.str)) = H5
      have s5 : Same H H5 := sH.trans (by rw [← e5']; exact same_upd hN)
      have e5 : H5 N = some (.lst ((ws.map fun w => w.1).map V.str)) := by rw [← e5']; exact upd_same
      have hNH : H N = none := same_none sH hN
      clear e5' e4 sH hN
      repeat walk_at "rd"
      have ha5 := ha.same s5
      refine q_methF ha5 (by decide) (by decide) ?_
      repeat walk_at "rd"
      refine ⟨a, c, ws, rfl, ha5, fun l H6 hl s6 e6 => ?_⟩
      have e6 : H6 l = some (.lst ((ws.map fun w => w.1).map V.str)) := by rw [e6, List.map_map]; rfl
      have hlH : H l = none := same_none s5 hl
      have e6N := s6 _ _ e5
      have nlN : l ≠ N := fun z => by rw [z, e5] at hl; cases hl
      have s60 := s5.trans s6
      have ha6 := ha.same s60
      have nms : ∀ x ∈ ws.map (fun w => w.1), x ∈ names7 := fun x hx => by
        obtain ⟨w, hw, rfl⟩ := List.mem_map.mp hx
        exact r.nm w hw
      have nml : (ws.map fun w => w.1).length ≤ 7 := by rw [List.length_map]; exact fw
      have c19 : c.2 ≠ 0 ∧ Sz 1900 c.1 ∧ Sz 1900 c.2 := ⟨nc.1, nc.2.1.mono (by decide), nc.2.2.mono (by decide)⟩
      have w19 : WOk 1900 ws := r.wok.mono (by decide)
      clear hl s5 s6 e5
      repeat walk_at "rd"
      refine r_repr (rpa_strs e6 nms nml).1 ?_
      repeat walk_at "rd"
      refine q_propF ha6 ?_
      refine ⟨a, c, ws, rfl, ha6, fun ca hca => ?_⟩
      repeat walk_at "rd"
      refine ⟨ca, rfl, hca.ins, ca, c.1, c.2, rfl, hca, c19.2.1, c19.2.2, _, rfl, ?_⟩
      repeat walk_at "rd"
      refine q_propF ha6 ?_
      refine ⟨a, c, ws, rfl, ha6, ?_⟩
      repeat walk_at "rd"
      refine ⟨a, rfl, ha6.ins, a, c, ws, rfl, ha6, w19, c19, fun H7 s7 ln => ⟨_, rfl, ?_⟩⟩
      have ha7 := ha6.same s7
      repeat walk_at "rd"
      refine ⟨a, rfl, ha7.ins, a, c, ws, rfl, ha7, w19, c19, fun H8 s8 ln8 => ⟨_, rfl, ?_⟩⟩
      repeat walk_at "rd"
      refine r_new (by show 5 ≤ 100000; decide) (fun t H9 ht s9 e9 _ => ?_)
      have s69 := (s7.trans s8).trans s9
      have e9l := s69 _ _ e6
      have e9N := s69 _ _ e6N
      have nlt : t ≠ l := fun z => by rw [z, (s7.trans s8) _ _ e6] at ht; cases ht
      have ntN : t ≠ N := fun z => by rw [z, (s7.trans s8) _ _ e6N] at ht; cases ht
      have htH : H t = none := same_none ((s60.trans s7).trans s8) ht
      have s90 := s60.trans s69
      clear ht s7 s8 s9
      repeat walk_at "rd"
      refine r_append e9l (Nat.lt_of_lt_of_le (by rw [List.length_map]; omega : ((ws.map fun w => w.1).map V.str).length < 100) (by decide)) ?_
      generalize e10' : upd H9 l (.lst ((ws.map fun w => w.1).map V.str ++ [V.str "more"])) = H10
      have s10 : Same H H10 := same_put s90 hlH (fun b hb => by rw [← e10']; exact upd_ne hb)
      have e10N : H10 N = some (.lst ((ws.map fun w => w.1).map V.str)) := by rw [← e10', upd_ne nlN.symm]; exact e9N
      have e10 : H10 t = some (.lst [.str (PyData.shown (.list ((ws.map fun w => w.1).map PyData.str))), .str (amtR c.1 c.2), .str (bText (decide ((ws.length : Int) = 0))), .str (formT c ws), .str (Str.empty ++ "Form(" ++ formT c ws ++ ")")]) := by rw [← e10', upd_ne nlt]; exact e9
      clear e10' e9 e9N e9l s90 s69 e6 e6N
      have ha10 := ha.same s10
      repeat walk_at "rd"
      refine q_propF ha10 ?_
      refine ⟨a, c, ws, rfl, ha10, r.wok.mono (by decide), fun pl H11 s11 hpl => ?_⟩
      rw [r.cn.1] at hpl
      repeat walk_at "rd"
      refine ⟨pl, rfl, hpl.ins, pl, (0, 1), ws, rfl, hpl, w19, ⟨by decide, by unfold Sz; decide +kernel, by unfold Sz; decide +kernel⟩, fun H12 s12 ln12 => ⟨_, rfl, ?_⟩⟩
      have e12 := s12 _ _ (s11 _ _ e10)
      have e12N := s12 _ _ (s11 _ _ e10N)
      have s12a := (s10.trans s11).trans s12
      refine r_nil ?_
      refine r_append e12 (by show 5 < sizeLine; decide) ?_
      generalize e13' : upd H12 t _ = H13
      have s13 : Same H H13 := same_put s12a htH (fun b hb => by rw [← e13']; exact upd_ne hb)
      have e13N : H13 N = some (.lst ((ws.map fun w => w.1).map V.str)) := by rw [← e13', upd_ne ntN.symm]; exact e12N
      have e13 : H13 t = some (.lst ([PyData.shown (.list ((ws.map fun w => w.1).map PyData.str)), amtR c.1 c.2, bText (decide ((ws.length : Int) = 0)), formT c ws, Str.empty ++ "Form(" ++ formT c ws ++ ")", formT (0, 1) ws].map V.str)) := by rw [← e13', upd_same]; rfl
      clear e13' e12 e12N s12a s12 s11 e10 e10N hpl
      repeat walk_at "rd"
      have shA := (rpa_strs (K := K) e13N nms nml).2
      refine r_repr (rpa_strs e13N nms nml).1 ?_
      repeat walk_at "rd"
      refine ⟨d, _, rfl, .inl ⟨kvs, .inr "", .inl (s13 _ _ hd), rfl, v0.symm⟩, ?_⟩
      repeat walk_at "rd"
      refine ⟨q0, c.1, c.2, rfl, h0.same s13, c19.2.1, c19.2.2, ?_⟩
      repeat walk_at "rd"
      refine r_new (by show 0 ≤ 100000; decide) (fun z0 H14 hz0 s14 e14 _ => ?_)
      refine r_eqStrs (xs := ws.map fun w => w.1) (ys := []) (s14 _ _ e13N) e14 (fun x hx => (names7_asc x (nms x hx)).1) (fun x hx => nomatch hx) ?_
      repeat walk_at "rd"
      have r19 : ROk 1900 c ws := r.mono (by decide)
      have s14a := s13.trans s14
      refine ⟨d, c, ws, rfl, ⟨kvs, s14a _ _ hd, hp.same s14a⟩, r19, fun H15 s15 ln15 => ?_⟩
      have s15a := s14a.trans s15
      repeat walk_at "rd"
      refine ⟨d, c, ws, rfl, ⟨kvs, s15a _ _ hd, hp.same s15a⟩, r19, fun H16 s16 ln16 => ?_⟩
      have s16a := s15a.trans s16
      repeat walk_at "rd"
      refine ⟨_, _, rfl, rfl, by walk_at "len", ?_⟩
      repeat walk_at "rd"
      refine ⟨_, _, rfl, rfl, by walk_at "len", ?_⟩
      repeat walk_at "rd"
      refine r_new (by show 5 ≤ 100000; decide) (fun u H17 hu s17 e17 _ => ?_)
      have s17a := s16a.trans s17
      have s13b := ((s14.trans s15).trans s16).trans s17
      have e17t := s13b _ _ e13
      repeat walk_at "rd"
      refine ⟨d, kvs, rfl, .inl (s17a _ _ hd), fun P hP => ?_⟩
      generalize e18' : upd H17 P (.dK kvs) = H18
      have s18 : Same H17 H18 := by rw [← e18']; exact same_upd hP
      have e18 : H18 P = some (.dK kvs) := by rw [← e18']; exact upd_same
      have hPH : H P = none := same_none s17a hP
      have nPt : P ≠ t := fun z => by rw [z, e17t] at hP; cases hP
      have nPu : P ≠ u := fun z => by rw [z, e17] at hP; cases hP
      clear e18'
      repeat walk_at "rd"
      refine r_dput ?_
      repeat walk_at "rd"
      refine r_new (by show 2 ≤ 100000; decide) (fun z1 H19 hz1 s19 e19 _ => ?_)
      repeat walk_at "rd"
      have e19P := s19 _ _ e18
      have s19a := (s17a.trans s18).trans s19
      refine ⟨P, _, rfl, .inl ⟨kvs, .inr "", e19P, rfl, Nat.lt_of_lt_of_le (by omega : kvs.length < 100) (by decide), rfl⟩, ?_⟩
      have pp := ((hp.same s19a).put (z := "") (u := (0, 1)) (show TupAt H19 z1 0 1 from e19)).mono (H' := upd H19 P (.dK (putK kvs (.inr "") (.ref z1)))) fun a t b h => h.off e19P (fun b hb => upd_ne hb)
      rw [putW_row0 (fun w hw => (names7_ok _ (r.nm w hw)).2.2)] at pp
      generalize eF : putK kvs (.inr "") (.ref z1) = fk at pp ⊢
      generalize e20' : upd H19 P (.dK fk) = H20 at pp ⊢
      have e20 : H20 P = some (.dK fk) := by rw [← e20', upd_same]
      have e20t := (show H20 t = H19 t from by rw [← e20', upd_ne nPt.symm]).trans (s19 _ _ (s18 _ _ e17t))
      have e20u := (show H20 u = H19 u from by rw [← e20', upd_ne nPu.symm]).trans (s19 _ _ (s18 _ _ e17))
      have s20 : Same H H20 := same_put s19a hPH (fun b hb => by rw [← e20']; exact upd_ne hb)
      clear e20' eF e19P s19a s19 s18 e17 e17t s13b s17a s17 s16a s16 s15a s15 s14a s14 e14 e13 e13N s13 hP hu hz0 hz1
      repeat walk_at "rd"
      refine ⟨P, (0, 1), ws, rfl, ⟨fk, e20, pp⟩, ⟨lw_one 0, r.lwa, r.cn, r.nm, fun w hw => ?_⟩, fun H21 s21 ln21 => ?_⟩
      · rcases List.mem_cons.mp hw with rfl | hw
        · exact ⟨by decide, by unfold Sz; decide +kernel, by unfold Sz; decide +kernel⟩
        · exact r19.num w (List.mem_cons_of_mem _ hw)
      repeat walk_at "rd"
      refine r_new (by show 1 ≤ 100000; decide) (fun u2 H22 hu2 s22 e22 _ => ?_)
      repeat walk_at "rd"
      refine ⟨u, u2, _, _, rfl, rfl, s22 _ _ (s21 _ _ e20u), e22, by show 5 + 1 ≤ sizeLine; decide, fun u3 hu3 => ?_⟩
      generalize e23' : upd H22 u3 _ = H23
      have e23 := (congrFun e23' u3).symm.trans upd_same
      have s23 : Same H22 H23 := by rw [← e23']; exact same_upd hu3
      have s23a := ((s20.trans s21).trans s22).trans s23
      have e23t := s23 _ _ (s22 _ _ (s21 _ _ e20t))
      clear e23'
      repeat walk_at "rd"
      have b1 : decide ((ws.length : Int) = 0) = decide ((ws.map fun w => w.1) = []) := decide_eq_decide.mpr ⟨fun h => by rw [List.map_eq_nil_iff]; exact List.eq_nil_of_length_eq_zero (by omega), fun h => by rw [List.map_eq_nil_iff] at h; rw [h]; rfl⟩
      rw [b1, Str.empty_append] at e23t
      refine r_strs6 e23t e23 (fun x hx => ?_) ?_
      · have f0 := asc_formT (c := c) r.nm
        simp only [List.mem_cons, List.not_mem_nil, or_false] at hx
        rcases hx with rfl | rfl | rfl | rfl | rfl | rfl
        · exact shA
        · exact asc_amtR
        · exact asc_bText _
        · exact f0
        · exact Asc.app (Asc.app (asc_by (by decide +kernel)) f0) (asc_by (by decide +kernel))
        · exact asc_formT r.nm
      clear e23 e23t e20t e20u b1
      repeat walk_at "rd"
      have nG : ∀ z, (wsGet ws z).2 ≠ 0 ∧ Sz 1900 (wsGet ws z).1 ∧ Sz 1900 (wsGet ws z).2 := fun z => by
        have := numA_get (z := z) (n := 1500) (ws := ws) fun w hw => r.num w (List.mem_cons_of_mem _ hw)
        exact ⟨this.1, this.2.1.mono (by decide), this.2.2.mono (by decide)⟩
      refine r_new (by show 7 ≤ 100000; decide) (fun p1 H24 hp1 s24 e24 _ => ?_)
      have s24a := s23a.trans s24
      have e24 : H24 p1 = some (.lst (asked.map V.str)) := e24
      refine ⟨p1, rfl, ⟨_, .inl (.inl e24)⟩, u_lcL (xs := asked.map V.str) (fun D1 H25 hD1 s25 e25 _ => ⟨fun i H' => H' D1 = some (.lst (((asked.take i).map fun z => amtR (wsGet ws z).1 (wsGet ws z).2).map V.str)) ∧ Same H24 H', ⟨e25, s25⟩, (fun i H' _ z => .inl (.inl (z.2 _ _ e24))), ?_, ?_⟩)⟩
      · rintro i x H26 hx ⟨e26, s26⟩
        rw [List.getElem?_map] at hx
        obtain ⟨z, hz, rfl⟩ := Option.map_eq_some_iff.mp hx
        have zok := asked_ok z (List.mem_of_getElem? hz)
        have il : i < asked.length := (List.getElem?_eq_some_iff.mp hz).1
        have il : i < 7 := il
        have ha26 := ha.same (s24a.trans s26)
        repeat walk_at "rd"
        refine ⟨rfl, ?_⟩
        repeat walk_at "rd"
        refine q_methF ha26 (by decide) (by decide) ?_
        repeat walk_at "rd"
        refine ⟨a, c, ws, z, rfl, ha26, zok.1, zok.2.1, fun p H27 s27 hp => ?_⟩
        repeat walk_at "rd"
        refine ⟨p, rfl, hp.ins, p, _, _, rfl, hp, (nG z).2.1, (nG z).2.2, _, rfl, ?_⟩
        refine g_grow (s27 _ _ e26) (by rw [List.length_map, List.length_map, List.length_take]; omega) (fun H28 e28 ne28 => ?_)
        refine ⟨?_, fun b o eb => by rw [ne28 b (fun y => by rw [y, hD1] at eb; cases eb)]; exact s27 _ _ (s26 _ _ eb)⟩
        rw [e28, List.take_add_one, hz, List.map_append, List.map_append]
        rfl
      rintro H26 ⟨e26, s26⟩
      rw [List.length_map, List.take_length] at e26
      have s26a := s24a.trans s26
      repeat walk_at "rd"
      refine r_new (by show 7 ≤ 100000; decide) (fun p2 H27 hp2 s27 e27 _ => ?_)
      have s27a := s26a.trans s27
      have e27 : H27 p2 = some (.lst (asked.map V.str)) := e27
      refine ⟨p2, rfl, ⟨_, .inl (.inl e27)⟩, u_lcL (xs := asked.map V.str) (fun D2 H28 hD2 s28 e28 _ => ⟨fun i H' => H' D2 = some (.lst (((asked.take i).map fun z => amtR (wsGet ws z).1 (wsGet ws z).2).map V.str)) ∧ Same H27 H', ⟨e28, s28⟩, (fun i H' _ z => .inl (.inl (z.2 _ _ e27))), ?_, ?_⟩)⟩
      · rintro i x H29 hx ⟨e29, s29⟩
        rw [List.getElem?_map] at hx
        obtain ⟨z, hz, rfl⟩ := Option.map_eq_some_iff.mp hx
        have zok := asked_ok z (List.mem_of_getElem? hz)
        have il : i < asked.length := (List.getElem?_eq_some_iff.mp hz).1
        have il : i < 7 := il
        have s29a := s27a.trans s29
        repeat walk_at "rd"
        refine ⟨rfl, ?_⟩
        repeat walk_at "rd"
        refine r_dget2 ?_
        repeat walk_at "rd"
        refine ⟨d, rfl, .inl ⟨kvs, .inl (s29a _ _ hd)⟩, ?_⟩
        repeat walk_at "rd"
        refine r_new (by show 2 ≤ 100000; decide) (fun pz H30 hpz s30 e30 _ => ?_)
        have s30a := s29a.trans s30
        have p30 := hp.same s30a
        obtain ⟨qa, eo, hqa⟩ : ∃ qa, (valV kvs (.inr z)).getD (.ref pz) = .ref qa ∧ TupAt H30 qa (wsGet ws z).1 (wsGet ws z).2 := by
          have eg : wsGet (row0 c ws) z = wsGet ws z := wsGet_rowN zok.2.2
          rcases p30.get (z := z) with ⟨e1, e2, _⟩ | ⟨a, e1, ha⟩
          · rw [eg] at e2
            rw [e1, e2]
            exact ⟨pz, rfl, e30⟩
          · rw [eg] at ha
            rw [e1]
            exact ⟨a, rfl, ha⟩
        refine ⟨_, .inl ⟨kvs, .inr z, .inl (s30a _ _ hd), rfl, rfl⟩, ?_⟩
        rw [eo]
        repeat walk_at "rd"
        refine ⟨qa, _, _, rfl, hqa, (nG z).2.1, (nG z).2.2, ?_⟩
        refine g_grow (s30 _ _ e29) (by rw [List.length_map, List.length_map, List.length_take]; omega) (fun H31 e31 ne31 => ?_)
        refine ⟨?_, fun b o eb => by rw [ne31 b (fun y => by rw [y, hD2] at eb; cases eb)]; exact s30 _ _ (s29 _ _ eb)⟩
        rw [e31, List.take_add_one, hz, List.map_append, List.map_append]
        rfl
      rintro H29 ⟨e29, s29⟩
      rw [List.length_map, List.take_length] at e29
      have as : ∀ x ∈ asked.map (fun z => amtR (wsGet ws z).1 (wsGet ws z).2), Asc x := fun x hx => by
        obtain ⟨z, _, rfl⟩ := List.mem_map.mp hx
        exact asc_amtR
      refine r_eqStrs (s29 _ _ (s27 _ _ e26)) e29 as as ?_
      rw [decide_eq_true rfl]
      exact k _ (s27a.trans s29)

end
/-! ### one step of the law -/
abbrev CW := (Int × Int) × Ws
theorem ne_pot {p a : Addr} {H : Hp} (hp : PotAt H p) {o : HO} (e : H a = some o) (n : ∀ l, o ≠ .lst l) : a ≠ p := by
  obtain ⟨c0, c1, ep, _⟩ := hp
  rintro rfl
  rw [ep] at e
  exact n _ (Option.some.inj e).symm
theorem AmtAt.keep {K : PySem.W.Frag} {p a : Addr} {H H' : Hp} {t b : Int} (h : AmtAt K H a t b) (k : KeepBut p H H') (hp : PotAt H p) : AmtAt K H' a t b :=
  let ⟨dx, e⟩ := h; ⟨dx, k a _ (ne_pot hp e fun l z => by cases z) e⟩
theorem FrmAt.keep {K : PySem.W.Frag} {p a : Addr} {H H' : Hp} {c : Int × Int} {ws : Ws} (h : FrmAt K H a c ws) (k : KeepBut p H H') (hp : PotAt H p) : FrmAt K H' a c ws := by
  obtain ⟨dx, ca, d, kvs, e1, e2, e3, e4⟩ := h
  exact ⟨dx, ca, d, kvs, k a _ (ne_pot hp e1 fun l z => by cases z) e1, e2.keep k hp, k d _ (ne_pot hp e3 fun l z => by cases z) e3, e4.mono fun a t b x => x.keep k hp⟩
def RowsAt (H : Hp) (rs : List Addr) (cs : List CW) : Prop := Paired (fun a (x : CW) => RowAt H a (row0 x.1 x.2)) rs cs
def FrmsAt (K : PySem.W.Frag) (H : Hp) (fs : List Addr) (cs : List CW) : Prop := Paired (fun a (x : CW) => FrmAt K H a x.1 x.2) fs cs
theorem RowsAt.same {H H' : Hp} {rs : List Addr} {cs : List CW} (h : RowsAt H rs cs) (s : Same H H') : RowsAt H' rs cs := L2.Paired.mapP h fun _ _ x => x.same s
theorem FrmsAt.same {K : PySem.W.Frag} {H H' : Hp} {rs : List Addr} {cs : List CW} (h : FrmsAt K H rs cs) (s : Same H H') : FrmsAt K H' rs cs := L2.Paired.mapP h fun _ _ x => x.same s
theorem RowsAt.keep {p : Addr} {H H' : Hp} {rs : List Addr} {cs : List CW} (h : RowsAt H rs cs) (k : KeepBut p H H') (hp : PotAt H p) : RowsAt H' rs cs := L2.Paired.mapP h fun _ _ x => x.keep k hp
theorem FrmsAt.keep {K : PySem.W.Frag} {p : Addr} {H H' : Hp} {rs : List Addr} {cs : List CW} (h : FrmsAt K H rs cs) (k : KeepBut p H H') (hp : PotAt H p) : FrmsAt K H' rs cs := L2.Paired.mapP h fun _ _ x => x.keep k hp
theorem pair_get {α β : Type} {R : α → β → Prop} : ∀ {as : List α} {bs : List β} {i : Nat} {b : β}, Paired R as bs → bs[i]? = some b → ∃ a, as[i]? = some a ∧ R a b
  | _, _, i, b, .nil, h => by cases h
  | _, _, 0, b, .cons x r, h => by cases h; exact ⟨_, rfl, x⟩
  | _, _, i + 1, b, .cons x r, h => pair_get (i := i) r h
def sp_step (K : PySem.W.Frag) : Sp := fun vs H Q _ => ∃ p R F, ∃ rs fs : List Addr, ∃ cs : List CW, vs = [.ref p, .ref R, .ref F] ∧ PotAt H p ∧ H R = some (.lst (rs.map V.ref)) ∧ H F = some (.lst (fs.map V.ref)) ∧ R ≠ p ∧ F ≠ p ∧ RowsAt H rs cs ∧ FrmsAt K H fs cs ∧ cs ≠ [] ∧ cs.length ≤ 60 ∧ (∀ x ∈ cs, ROk 250 x.1 x.2) ∧
  ∀ t d a c ws H', H' t = some (.tup [.ref d, .ref a]) → RowAt H' d (row0 c ws) → FrmAt K H' a c ws → ROk 1500 c ws → PotAt H' p → KeepBut p H H' → Q (.ref t) H'
theorem sgA_1 {u : Int × Int} : sgA 1 u = u := by unfold sgA; rw [Int.mul_one]
theorem sgW_1 {ws : Ws} : sgW 1 ws = ws := by
  unfold sgW
  conv => rhs; rw [← List.map_id ws]
  refine List.map_congr_left fun w _ => ?_
  rw [sgA_1]
  rfl
theorem cn_nil : Cn ([] : Ws) := ⟨canon_nil, List.nodup_nil⟩
theorem rok_nil {n : Nat} {t b : Int} (l : Lw (t, b)) (z1 : Sz n t) (z2 : Sz n b) : ROk n (t, b) [] :=
  ⟨l, (fun w hw => nomatch hw), cn_nil, (fun w hw => nomatch hw), fun w hw => by
    rw [List.mem_singleton.mp hw]
    exact ⟨l.1, z1, z2⟩⟩
theorem over_eq {x y t b : Int} (hy : y ≠ 0) (ht : t ≠ 0) : low (x * (low (1 * b) (1 * t)).1) (y * (low (1 * b) (1 * t)).2) = low (x * b) (y * t) := by
  rw [Int.one_mul, Int.one_mul]
  have ⟨h1, h2⟩ := low_mul (t := b) ht
  have p := low_pos (t := b) ht
  refine low_cross (Int.mul_ne_zero hy (by omega)) (Int.mul_ne_zero hy ht) ?_
  have e : (low b t).1 * t = b * (low b t).2 := by
    have a : (low b t).1 * t = (low b t).1 * ((low b t).2 * gd b t) := by rw [h2]
    have c : b * (low b t).2 = ((low b t).1 * gd b t) * (low b t).2 := by rw [h1]
    rw [a, c]
    grind
  have : x * (low b t).1 * (y * t) = x * y * ((low b t).1 * t) := by grind
  rw [this, e]
  grind
theorem overW_eq {ws : Ws} {t b : Int} (h : ∀ w ∈ ws, w.2.2 ≠ 0) (ht : t ≠ 0) : mulW ws (low (1 * b) (1 * t)).1 (low (1 * b) (1 * t)).2 = mulW ws b t := by
  unfold mulW
  refine List.map_congr_left fun w hw => ?_
  rw [over_eq (h w hw) ht]
theorem ROk.c0 {n : Nat} {c : Int × Int} {ws : Ws} (h : ROk n c ws) : c.2 ≠ 0 ∧ Sz n c.1 ∧ Sz n c.2 := h.num _ List.mem_cons_self
theorem sz3 {n m : Nat} {c : Int × Int} (h : c.2 ≠ 0 ∧ Sz n c.1 ∧ Sz n c.2) (l : n ≤ m) : c.2 ≠ 0 ∧ Sz m c.1 ∧ Sz m c.2 := ⟨h.1, h.2.1.mono l, h.2.2.mono l⟩
theorem opAmt {K : PySem.W.Frag} {H : Hp} {Q : VK} {E : XK} {sp : Sp} {fa : Addr} {av : V} {c : Int × Int} {ws : Ws} {t b : Int} (hf : FrmAt K H fa c ws) (ha : AmtV K H av t b) (q : sp [.ref fa, av] H Q E) :
    rOpOwn (He.ga K (Str.ofString "Form")) ["int"] sp E (.ref fa) av H Q ∨ rOpTwo (He.ga K (Str.ofString "Form")) (He.ga K (Str.ofString "Amount")) sp E (.ref fa) av H Q := by
  rcases ha with ⟨a, rfl, h⟩ | ⟨rfl, _⟩
  · exact .inr ⟨fa, a, rfl, rfl, hf.ins, h.ins, q⟩
  · exact .inl (r_opOwn hf.ins (.inr ⟨"int", rfl, by decide⟩) q)
theorem wok_nil {n : Nat} : WOk n [] := ⟨by intro w hw; (cases hw), List.nodup_nil, by decide, by intro w hw; (cases hw)⟩
theorem negW_nil : negW [] = [] := by rw [negW_lw (by intro w hw; cases hw) cn_nil]; rfl

section
variable {P : Program} {w : World} {K : PySem.W.Frag} {mg : Str → Option Value} {base : Heap}
theorem sc_l_step : FnScope ["_law_pot_here", "_law_rows", "_law_forms", "_law_place", "_law_spot", "_law_pair_here", "_law_way", "_law_amount", "_law_made"] ["_law_pot_here", "_law_rows", "_law_forms"] (defScope s_l_step) := ⟨rfl, rfl, rfl, by decide +kernel, rfl, by decide +kernel, by decide +kernel⟩
theorem ok_l_step (T : Tx K mg) : FnG P w K mg base CX0 true 10 (He.ga K "_law_step") T.fd_l_step ["_law_pot_here", "_law_rows", "_law_forms"] (sp_step K) := by
  refine funG T.F_l_step sc_l_step (fun vs H Q E h => ?_) (fun cdv A outer s H vs Q E hr hg h => ?_)
  · obtain ⟨p, R, F, rs, fs, cs, e, _⟩ := h; rw [e]; rfl
  · obtain ⟨p, R, F, rs, fs, cs, rfl, hp, hR, hF, nR, nF, hr1, hf1, ne, few, ok, k⟩ := h
    refine ⟨_, (pss_cons (ps_par (i := 3) (j := 4) (by rfl) sc_l_step.nd rfl rfl (by decide) rfl rfl (pa_cons (pg_call (ok_l_digit T) (hr.mono (by decide)) hg (by rfl) T.g_l_digit T.F_l_digit.kp T.b_l_digit .nil pass0 (pa_cons (pv 0) (pa_cons (pe_callB call_len_seq (by rfl) T.m_len (by decide +kernel) (pa_cons (pv 1) pa_nil)) pa_nil))) (pa_cons (pg_call (ok_l_digit T) (hr.mono (by decide)) hg (by rfl) T.g_l_digit T.F_l_digit.kp T.b_l_digit .nil pass0 (pa_cons (pv 0) (pa_cons (pe_callB call_len_seq (by rfl) T.m_len (by decide +kernel) (pa_cons (pv 1) pa_nil)) pa_nil))) pa_nil)) (by rfl))
    (pss_cons (ps_par (i := 5) (j := 6) (by rfl) sc_l_step.nd rfl rfl (by decide) rfl rfl (pa_cons (pg_call (ok_l_lowest T) (hr.mono (by decide)) hg (by rfl) T.g_l_lowest T.F_l_lowest.kp T.b_l_lowest .nil pass0 (pa_cons (pg_call (ok_l_pair T) (hr.mono (by decide)) hg (by rfl) T.g_l_pair T.F_l_pair.kp T.b_l_pair .nil pass0 (pa_cons (pv 0) pa_nil)) pa_nil)) (pa_cons (pg_call (ok_l_digit T) (hr.mono (by decide)) hg (by rfl) T.g_l_digit T.F_l_digit.kp T.b_l_digit .nil pass0 (pa_cons (pv 0) (pa_cons pe_int pa_nil))) pa_nil)) (by rfl))
    (pss_cons (ps_set (i := 7) sc_l_step.nd rfl (by first | exact Or.inl rfl | exact Or.inr rfl) (pe_ifExp (PW.pt (pw_and (pt_cmpR op_eq (pe_ix (ix_tupK (K' := K)) (pv 5) pe_int (fun _ _ => rfl)) pe_int (nomark _)) (pw_and1 (pt_cmpR op_eq (pg_call (ok_l_digit T) (hr.mono (by decide)) hg (by rfl) T.g_l_digit T.F_l_digit.kp T.b_l_digit .nil pass0 (pa_cons (pv 0) (pa_cons pe_int pa_nil))) pe_int (nomark _))))) (pe_ix (ix_tupK (K' := K)) (pv 5) pe_int (fun _ _ => rfl)) (pg_make T.k_Amount (ok_AmountU_initU T) (hr.mono (by decide)) hg (by rfl) T.g_Amount T.b_AmountU_initU .nil pass0 (pa_cons (pe_op op_mulW (pe_ix (ix_tupK (K' := K)) (pv 5) pe_int (fun _ _ => rfl)) pe_int) (pa_cons (pe_op op_mulW (pe_ix (ix_tupK (K' := K)) (pv 5) pe_int (fun _ _ => rfl)) pe_int) pa_nil)))))
    (pss_cons (ps_if (pt_cmpR op_lt (pv 6) pe_int (nomark _)) (pss_cons (ps_set (i := 8) sc_l_step.nd rfl (by first | exact Or.inl rfl | exact Or.inr rfl) (pe_ifExp (pt_cmpR op_eq (pv 6) pe_int (nomark _)) (pe_op (op_own T.o_Form_Add (ok_FormU_addU T) (hr.mono (by decide)) hg T.b_FormU_addU pass0) (pe_ix (ix_listK (K' := K)) (pv 2) (pv 3) (fun _ _ => rfl)) (pe_ix (ix_listK (K' := K)) (pv 2) (pv 4) (fun _ _ => rfl))) (pe_op (op_own T.o_Form_Sub (ok_FormU_subU T) (hr.mono (by decide)) hg T.b_FormU_subU pass0) (pe_ix (ix_listK (K' := K)) (pv 2) (pv 3) (fun _ _ => rfl)) (pe_ix (ix_listK (K' := K)) (pv 2) (pv 4) (fun _ _ => rfl)))))
    (pss_one (ps_ret (pe_tup (pa_cons (pg_call (ok_l_joined T) (hr.mono (by decide)) hg (by rfl) T.g_l_joined T.F_l_joined.kp T.b_l_joined .nil pass0 (pa_cons (pe_ix (ix_listK (K' := K)) (pv 1) (pv 3) (fun _ _ => rfl)) (pa_cons (pe_ix (ix_listK (K' := K)) (pv 1) (pv 4) (fun _ _ => rfl)) (pa_cons (pe_ix (ix_listK (K' := K)) (pe_lst (pa_cons pe_int (pa_cons (pe_un un_neg pe_int) pa_nil))) (pv 6) (fun _ _ => rfl)) pa_nil)))) (pa_cons (pv 8) pa_nil)))))) pss_nil)
    (pss_cons (ps_if (pt_cmpR op_lt (pv 6) pe_int (nomark _)) (pss_cons (ps_set (i := 8) sc_l_step.nd rfl (by first | exact Or.inl rfl | exact Or.inr rfl) (pe_ifExp (pt_cmpR op_eq (pv 6) pe_int (nomark _)) (pe_op (op_orR (op_own T.o_Form_Add (ok_FormU_addU T) (hr.mono (by decide)) hg T.b_FormU_addU pass0) (op_two T.t_Form_Amount_Add (ok_FormU_addU T) (hr.mono (by decide)) hg T.b_FormU_addU pass0)) (pe_ix (ix_listK (K' := K)) (pv 2) (pv 3) (fun _ _ => rfl)) (pv 7)) (pe_op (op_orR (op_own T.o_Form_Sub (ok_FormU_subU T) (hr.mono (by decide)) hg T.b_FormU_subU pass0) (op_two T.t_Form_Amount_Sub (ok_FormU_subU T) (hr.mono (by decide)) hg T.b_FormU_subU pass0)) (pe_ix (ix_listK (K' := K)) (pv 2) (pv 3) (fun _ _ => rfl)) (pv 7))))
    (pss_one (ps_ret (pe_tup (pa_cons (pg_call (ok_l_joined T) (hr.mono (by decide)) hg (by rfl) T.g_l_joined T.F_l_joined.kp T.b_l_joined .nil pass0 (pa_cons (pe_ix (ix_listK (K' := K)) (pv 1) (pv 3) (fun _ _ => rfl)) (pa_cons (pe_disp (pps_cons pe_str (pv 5) pps_nil) (by rfl) (by rfl) (fun h => nomatch h) (by decide)) (pa_cons (pe_ix (ix_listK (K' := K)) (pe_lst (pa_cons pe_int (pa_cons (pe_un un_neg pe_int) pa_nil))) (pe_op op_sub (pv 6) pe_int) (fun _ _ => rfl)) pa_nil)))) (pa_cons (pv 8) pa_nil)))))) pss_nil)
    (pss_cons (ps_if (pt_cmpR op_eq (pv 6) pe_int (nomark _)) (pss_one (ps_ret (pe_tup (pa_cons (pg_call (ok_l_scaled T) (hr.mono (by decide)) hg (by rfl) T.g_l_scaled T.F_l_scaled.kp T.b_l_scaled .nil pass0 (pa_cons (pe_ix (ix_listK (K' := K)) (pv 1) (pv 3) (fun _ _ => rfl)) (pa_cons (pv 5) pa_nil))) (pa_cons (pe_op (op_orR (op_own T.o_Form_Mult (ok_FormU_mulU T) (hr.mono (by decide)) hg T.b_FormU_mulU pass0) (op_two T.t_Form_Amount_Mult (ok_FormU_mulU T) (hr.mono (by decide)) hg T.b_FormU_mulU pass0)) (pe_ix (ix_listK (K' := K)) (pv 2) (pv 3) (fun _ _ => rfl)) (pv 7)) pa_nil))))) pss_nil)
    (pss_cons (ps_if (PW.pt (pw_and (pt_cmpR op_eq (pv 6) pe_int (nomark _)) (pw_and1 (pt_cmpR op_ne (pe_ix (ix_tupK (K' := K)) (pv 5) pe_int (fun _ _ => rfl)) pe_int (nomark _))))) (pss_one (ps_ret (pe_tup (pa_cons (pg_call (ok_l_scaled T) (hr.mono (by decide)) hg (by rfl) T.g_l_scaled T.F_l_scaled.kp T.b_l_scaled .nil pass0 (pa_cons (pe_ix (ix_listK (K' := K)) (pv 1) (pv 3) (fun _ _ => rfl)) (pa_cons (pe_tup (pa_cons (pe_ix (ix_tupK (K' := K)) (pv 5) pe_int (fun _ _ => rfl)) (pa_cons (pe_ix (ix_tupK (K' := K)) (pv 5) pe_int (fun _ _ => rfl)) pa_nil))) pa_nil))) (pa_cons (pg_meth (pe_ix (ix_listK (K' := K)) (pv 2) (pv 3) (fun _ _ => rfl)) T.c_Form T.mt_Form_over (ok_Form_over T) (hr.mono (by decide)) hg T.b_Form_over .nil pass0 (pa_cons (pv 7) pa_nil)) pa_nil))))) pss_nil)
    (pss_one (ps_ret (pe_tup (pa_cons (pg_call (ok_l_scaled T) (hr.mono (by decide)) hg (by rfl) T.g_l_scaled T.F_l_scaled.kp T.b_l_scaled .nil pass0 (pa_cons (pe_ix (ix_listK (K' := K)) (pv 1) (pv 3) (fun _ _ => rfl)) (pa_cons (pe_tup (pa_cons (pe_un un_neg pe_int) (pa_cons pe_int pa_nil))) pa_nil))) (pa_cons (pe_un (un_own T.o_Form_neg (ok_FormU_negU T) (hr.mono (by decide)) hg T.b_FormU_negU pass0) (pe_ix (ix_listK (K' := K)) (pv 2) (pv 3) (fun _ _ => rfl))) pa_nil)))))))))))), ?_⟩
    have rl : rs.length = cs.length := Paired.length hr1
    have fl : fs.length = cs.length := Paired.length hf1
    have c0 : 0 < cs.length := List.length_pos_iff.mpr ne
    walk_at "st"
    repeat walk_at "rd"
    refine ⟨p, _, rfl, hp, by rw [List.length_map]; omega, by rw [List.length_map]; omega, fun pl H1 pl0 pl1 hp1 k1 => ?_⟩
    have hR1 := k1 R _ nR hR
    repeat walk_at "rd"
    refine ⟨p, _, rfl, hp1, by rw [List.length_map]; omega, by rw [List.length_map]; omega, fun sp H2 sp0 sp1 hp2 k2 => ?_⟩
    have hR2 := k2 R _ nR hR1
    repeat walk_at "rd"
    refine ⟨p, rfl, hp2, fun q0 t0 b0 H3 z1 z2 b00 hq0 tq0 hp3 k3 => ?_⟩
    repeat walk_at "rd"
    refine ⟨q0, t0, b0, rfl, tq0, b00, z1.mono (by decide), z2.mono (by decide), fun q H4 hq s4 tq => ?_⟩
    have hp4 := hp3.same s4
    have lw := low_lw (t := t0) b00
    have zz := low_ok b00 z1 z2
    generalize et : (low t0 b0).1 = t at *
    generalize eb : (low t0 b0).2 = b at *
    rw [show low t0 b0 = (t, b) from by rw [← et, ← eb]] at lw
    clear et eb z1 z2 tq0 hq0 b00
    repeat walk_at "rd"
    refine ⟨p, 7, rfl, hp4, by decide, by decide, fun wy H5 wy0 wy1 hp5 k5 => ?_⟩
    have kk : KeepBut p H H5 := fun b o hb e => k5 b o hb (s4 _ _ (k3 b o hb (k2 b o hb (k1 b o hb e))))
    have tq5 := tq.keep k5 hp4
    rw [List.length_map] at pl1 sp1
    obtain ⟨i, rfl⟩ := Int.eq_ofNat_of_zero_le pl0
    obtain ⟨j, rfl⟩ := Int.eq_ofNat_of_zero_le sp0
    refine r_nil ?_
    refine q_par ?_
    refine r_seq ?_
    refine r_gen (fun σ' H' => ∃ av, σ' = [some (.ref p), some (.ref R), some (.ref F), some (.int i), some (.int j), some (.ref q), some (.int wy), some av, none] ∧ AmtV K H' av t b ∧ TupAt H' q t b ∧ PotAt H' p ∧ KeepBut p H H') (fun n' kn => ?_) ?_
    · repeat walk_at "rd"
      refine r_dec (fun e1 => ?_) (fun e1 => ?_)
      · repeat walk_at "rd"
        refine ⟨p, 2, rfl, hp5, by decide, by decide, fun dg H6 _ _ hp6 k6 => ?_⟩
        have tq6 := tq5.keep k6 hp5
        have g6 := tq6
        unfold TupAt at g6
        have kk6 : KeepBut p H H6 := fun b o hb e => k6 b o hb (kk b o hb e)
        repeat walk_at "rd"
        refine r_dec (fun e2 => ?_) (fun e2 => ?_)
        · repeat walk_at "rd"
          exact kn _ _ ⟨_, rfl, .inr ⟨rfl, e1⟩, tq6, hp6, kk6⟩
        · repeat walk_at "rd"
          refine r_I (Sz.cm zz.2.1 (show Sz 2 2 from by unfold Sz; decide) (by decide) (by decide) (by decide)) ?_
          repeat walk_at "rd"
          refine use_make rfl (by have := zz.1; omega) ((zz.2.2.mul (show Sz 2 2 from by unfold Sz; decide)).mono (by decide)) (fun na H7 s7 _ hna => ?_)
          rw [show low (t * 2) (b * 2) = (t, b) from (low_cross (by have := zz.1; omega) zz.1 (by grind)).trans lw.2] at hna
          refine r_gname (kn _ _ ⟨_, rfl, .inl ⟨na, rfl, hna⟩, tq6.same s7, hp6.same s7, fun b o hb e => s7 _ _ (kk6 b o hb e)⟩)
      · repeat walk_at "rd"
        refine r_I (Sz.cm zz.2.1 (show Sz 2 2 from by unfold Sz; decide) (by decide) (by decide) (by decide)) ?_
        repeat walk_at "rd"
        refine r_I (Sz.cm zz.2.2 (show Sz 2 2 from by unfold Sz; decide) (by decide) (by decide) (by decide)) ?_
        repeat walk_at "rd"
        refine use_make rfl (by have := zz.1; omega) ((zz.2.2.mul (show Sz 2 2 from by unfold Sz; decide)).mono (by decide)) (fun na H7 s7 _ hna => ?_)
        rw [show low (t * 2) (b * 2) = (t, b) from (low_cross (by have := zz.1; omega) zz.1 (by grind)).trans lw.2] at hna
        refine r_gname (kn _ _ ⟨_, rfl, .inl ⟨na, rfl, hna⟩, tq5.same s7, hp5.same s7, fun b o hb e => s7 _ _ (kk b o hb e)⟩)
    · rintro σ' H6 ⟨av, rfl, hav, tq6, hp6, k6⟩
      have hR6 := k6 R _ nR hR
      have hF6 := k6 F _ nF hF
      have rows6 := hr1.keep k6 hp
      have forms6 := hf1.keep k6 hp
      have g6 := tq6
      unfold TupAt at g6
      obtain ⟨x, hx⟩ : ∃ x, cs[i]? = some x := ⟨_, List.getElem?_eq_getElem (by omega)⟩
      obtain ⟨y, hy⟩ : ∃ x, cs[j]? = some x := ⟨_, List.getElem?_eq_getElem (by omega)⟩
      obtain ⟨ra, era, hra⟩ := pair_get rows6 hx
      obtain ⟨rb, erb, hrb⟩ := pair_get rows6 hy
      obtain ⟨fa, efa, hfa⟩ := pair_get forms6 hx
      obtain ⟨fb, efb, hfb⟩ := pair_get forms6 hy
      have okx := ok x (List.mem_of_getElem? hx)
      have oky := ok y (List.mem_of_getElem? hy)
      have iRa : atI (rs.map V.ref) ((i : Nat) : Int) = some (.ref ra) := atI_nat (by rw [List.getElem?_map, era]; rfl)
      have iRb : atI (rs.map V.ref) ((j : Nat) : Int) = some (.ref rb) := atI_nat (by rw [List.getElem?_map, erb]; rfl)
      have iFa : atI (fs.map V.ref) ((i : Nat) : Int) = some (.ref fa) := atI_nat (by rw [List.getElem?_map, efa]; rfl)
      have iFb : atI (fs.map V.ref) ((j : Nat) : Int) = some (.ref fb) := atI_nat (by rw [List.getElem?_map, efb]; rfl)
      have okp : ROk 250 (t, b) [] := rok_nil lw (zz.2.1.mono (by decide)) (zz.2.2.mono (by decide))
      have fx := okx.few
      have fy := oky.few
      have fin : ∀ tt d m c ws H8, Same H6 H8 → H8 tt = some (.tup [.ref d, .ref m]) → RowAt H8 d (row0 c ws) → FrmAt K H8 m c ws → ROk 1500 c ws → Q (.ref tt) H8 := fun tt d m c ws H8 s e1 e2 e3 e4 => k tt d m c ws H8 e1 e2 e3 e4 (hp6.same s) fun b o hb e => s _ _ (k6 b o hb e)
      clear k kk k1 k2 k3 k5 hp1 hp2 hp3 hp4 hp5 tq tq5 hR1 hR2 rows6 forms6
      repeat walk_at "rd"
      refine r_dec (fun ew => ?_) (fun ew => ?_)
      · refine r_seq ?_
        refine r_gen (fun σ' H' => ∃ m g, σ' = [some (.ref p), some (.ref R), some (.ref F), some (.int i), some (.int j), some (.ref q), some (.int wy), some av, some (.ref m)] ∧ ((wy = 0 ∧ g = 1) ∨ (wy = 1 ∧ g = -1)) ∧ Same H6 H' ∧ FrmAt K H' m (joinC g x.1 y.1) (joinW g x.2 y.2)) (fun n' kn => ?_) ?_
        · repeat walk_at "rd"
          refine r_dec (fun e0 => ?_) (fun e0 => ?_)
          · repeat walk_at "rd"
            refine r_ixL (.inl (.inl hF6)) iFa ?_
            repeat walk_at "rd"
            refine r_ixL (.inl (.inl hF6)) iFb ?_
            refine r_opOwn hfa.ins (.inl ⟨fb, rfl, hfb.ins⟩) ⟨fa, x.1, x.2, .ref fb, y.1, y.2, rfl, hfa, okx.wok.mono (by decide), sz3 okx.c0 (by decide), .inl ⟨fb, rfl, hfb⟩, oky.wok.mono (by decide), sz3 oky.c0 (by decide), by omega, fun m H7 s7 hm => ?_⟩
            refine r_gname (kn _ _ ⟨m, 1, rfl, .inl ⟨e0, rfl⟩, s7, ?_⟩)
            unfold joinC joinW
            rw [sgA_1, sgW_1]
            exact hm
          · repeat walk_at "rd"
            refine r_ixL (.inl (.inl hF6)) iFa ?_
            repeat walk_at "rd"
            refine r_ixL (.inl (.inl hF6)) iFb ?_
            refine r_opOwn hfa.ins (.inl ⟨fb, rfl, hfb.ins⟩) ⟨fa, x.1, x.2, .ref fb, y.1, y.2, rfl, hfa, okx.wok.mono (by decide), sz3 okx.c0 (by decide), .inl ⟨fb, rfl, hfb⟩, oky.wok.mono (by decide), sz3 oky.c0 (by decide), by omega, fun m H7 s7 hm => ?_⟩
            refine r_gname (kn _ _ ⟨m, -1, rfl, .inr ⟨by omega, rfl⟩, s7, ?_⟩)
            rw [negA_lw oky.lw, negW_lw oky.lwa oky.cn] at hm
            exact hm
        · rintro σ' H7 ⟨m, g, rfl, hg, s7, hm⟩
          repeat walk_at "rd"
          refine r_ixL (.inl (.inl (s7 _ _ hR6))) iRa ?_
          repeat walk_at "rd"
          refine r_ixL (.inl (.inl (s7 _ _ hR6))) iRb ?_
          repeat walk_at "rd"
          refine r_new (by show 2 ≤ 100000; decide) (fun L H8 hL s8 e8 _ => ?_)
          repeat walk_at "rd"
          have iG : atI [V.int 1, V.int (-1)] wy = some (.int g) := by
            rcases hg with ⟨rfl, rfl⟩ | ⟨rfl, rfl⟩ <;> rfl
          refine r_ixL (.inl (.inl e8)) iG ?_
          repeat walk_at "rd"
          have s78 := s7.trans s8
          have hg1 : g = 1 ∨ g = -1 := hg.elim (fun z => .inl z.2) (fun z => .inr z.2)
          refine ⟨ra, rb, g, x.1, y.1, x.2, y.2, rfl, hra.same s78, hrb.same s78, hg1, okx.mono (by decide), oky.mono (by decide), fun d H9 hd s9 hrow => ?_⟩
          repeat walk_at "rd"
          refine r_new (by show 2 ≤ 100000; decide) (fun tt H10 htt s10 e10 _ => ?_)
          exact fin tt d m _ _ H10 ((s78.trans s9).trans s10) e10 (hrow.same s10) (((hm.same s8).same s9).same s10) ((ROk.join hg1 okx oky).mono (by decide))
      · repeat walk_at "rd"
        refine r_dec (fun ew4 => ?_) (fun ew4 => ?_)
        · refine r_seq ?_
          refine r_gen (fun σ' H' => ∃ m g, σ' = [some (.ref p), some (.ref R), some (.ref F), some (.int i), some (.int j), some (.ref q), some (.int wy), some av, some (.ref m)] ∧ ((wy = 2 ∧ g = 1) ∨ (wy = 3 ∧ g = -1)) ∧ Same H6 H' ∧ FrmAt K H' m (joinC g x.1 (t, b)) (joinW g x.2 [])) (fun n' kn => ?_) ?_
          · repeat walk_at "rd"
            refine r_dec (fun e0 => ?_) (fun e0 => ?_)
            · repeat walk_at "rd"
              refine r_ixL (.inl (.inl hF6)) iFa ?_
              repeat walk_at "rd"
              refine opAmt hfa hav ⟨fa, x.1, x.2, av, (t, b), [], rfl, hfa, okx.wok.mono (by decide), sz3 okx.c0 (by decide), .inr ⟨hav, rfl⟩, wok_nil, sz3 okp.c0 (by decide), by show x.2.length + 0 < 64; omega, fun m H7 s7 hm => ?_⟩
              refine r_gname (kn _ _ ⟨m, 1, rfl, .inl ⟨e0, rfl⟩, s7, ?_⟩)
              unfold joinC joinW
              rw [sgA_1, sgW_1]
              exact hm
            · repeat walk_at "rd"
              refine r_ixL (.inl (.inl hF6)) iFa ?_
              repeat walk_at "rd"
              refine opAmt hfa hav ⟨fa, x.1, x.2, av, (t, b), [], rfl, hfa, okx.wok.mono (by decide), sz3 okx.c0 (by decide), .inr ⟨hav, rfl⟩, wok_nil, sz3 okp.c0 (by decide), by show x.2.length + 0 < 64; omega, fun m H7 s7 hm => ?_⟩
              refine r_gname (kn _ _ ⟨m, -1, rfl, .inr ⟨by omega, rfl⟩, s7, ?_⟩)
              rw [negA_lw lw, negW_nil] at hm
              exact hm
          · rintro σ' H7 ⟨m, g, rfl, hg, s7, hm⟩
            repeat walk_at "rd"
            refine r_ixL (.inl (.inl (s7 _ _ hR6))) iRa ?_
            repeat walk_at "rd"
            refine r_disp (fun pd H8 hpd s8 e8 ne8 => ?_)
            refine r_pair ?_
            repeat walk_at "rd"
            refine r_pair0 ⟨e8, [(.inr "", .ref q)], rfl, by show 1 ≤ 15; decide, fun H9 e9 ne9 => ?_⟩
            have e9 : H9 pd = some (.dK [(.inr "", .ref q)]) := e9
            have s9 : Same H7 H9 := same_put s8 hpd ne9
            have tq9 := tq6.same (s7.trans s9)
            have hrd : RowAt H9 pd (row0 (t, b) []) := ⟨_, e9, .cons tq9 .nil⟩
            repeat walk_at "rd"
            refine r_new (by show 2 ≤ 100000; decide) (fun L H10 hL s10 e10 _ => ?_)
            repeat walk_at "rd"
            have iG : atI [V.int 1, V.int (-1)] (wy - 2) = some (.int g) := by
              rcases hg with ⟨rfl, rfl⟩ | ⟨rfl, rfl⟩ <;> rfl
            refine r_ixL (.inl (.inl e10)) iG ?_
            repeat walk_at "rd"
            have s9a := s9.trans s10
            have hg1 : g = 1 ∨ g = -1 := hg.elim (fun z => .inl z.2) (fun z => .inr z.2)
            refine ⟨ra, pd, g, x.1, (t, b), x.2, [], rfl, (hra.same s7).same s9a, hrd.same s10, hg1, okx.mono (by decide), okp.mono (by decide), fun d H11 hd s11 hrow => ?_⟩
            repeat walk_at "rd"
            refine r_new (by show 2 ≤ 100000; decide) (fun tt H12 htt s12 e12 _ => ?_)
            exact fin tt d m _ _ H12 (((s7.trans s9a).trans s11).trans s12) e12 (hrow.same s12) (((hm.same s9a).same s11).same s12) ((ROk.join hg1 okx okp).mono (by decide))
        · repeat walk_at "rd"
          refine r_dec (fun e4 => ?_) (fun e4 => ?_)
          · repeat walk_at "rd"
            refine r_ixL (.inl (.inl hR6)) iRa ?_
            repeat walk_at "rd"
            refine ⟨ra, q, t, b, x.1, x.2, rfl, hra, tq6, zz.1, zz.2.1.mono (by decide), zz.2.2.mono (by decide), okx.mono (by decide), fun d H7 hd s7 hrow => ?_⟩
            repeat walk_at "rd"
            refine r_ixL (.inl (.inl (s7 _ _ hF6))) iFa ?_
            repeat walk_at "rd"
            refine opAmt (hfa.same s7) (hav.same s7) ⟨fa, x.1, x.2, av, t, b, rfl, hfa.same s7, okx.wok.mono (by decide), sz3 okx.c0 (by decide), hav.same s7, ⟨zz.1, zz.2.1.mono (by decide), zz.2.2.mono (by decide)⟩, fun m H8 s8 hm => ?_⟩
            repeat walk_at "rd"
            refine r_new (by show 2 ≤ 100000; decide) (fun tt H9 htt s9 e9 _ => ?_)
            exact fin tt d m _ _ H9 ((s7.trans s8).trans s9) e9 ((hrow.same s8).same s9) (hm.same s9) ((ROk.scale okx zz.1 zz.2.1 zz.2.2).mono (by decide))
          · repeat walk_at "rd"
            refine r_dec (fun e5 => ?_) (fun e5 => ?_)
            · repeat walk_at "rd"
              refine r_ndec (fun et => ?_) (fun et => ?_)
              · repeat walk_at "rd"
                refine r_ixL (.inl (.inl hR6)) iRa ?_
                repeat walk_at "rd"
                refine r_new (by show 2 ≤ 100000; decide) (fun qf H7 hqf s7 e7 _ => ?_)
                repeat walk_at "rd"
                refine ⟨ra, qf, b, t, x.1, x.2, rfl, hra.same s7, e7, et, zz.2.2.mono (by decide), zz.2.1.mono (by decide), okx.mono (by decide), fun d H8 hd s8 hrow => ?_⟩
                have s78 := s7.trans s8
                repeat walk_at "rd"
                refine r_ixL (.inl (.inl (s78 _ _ hF6))) iFa ?_
                repeat walk_at "rd"
                have hf8 := hfa.same s78
                refine q_methF hf8 (by decide) (by decide) ?_
                repeat walk_at "rd"
                refine ⟨fa, x.1, x.2, av, t, b, rfl, hf8, okx.wok.mono (by decide), sz3 okx.c0 (by decide), hav.same s78, ⟨zz.1, et, zz.2.1.mono (by decide), zz.2.2.mono (by decide)⟩, fun m H9 s9 hm => ?_⟩
                rw [over_eq okx.c0.1 et, overW_eq (fun w hw => (okx.num w (List.mem_cons_of_mem _ hw)).1) et] at hm
                repeat walk_at "rd"
                refine r_new (by show 2 ≤ 100000; decide) (fun tt H10 htt s10 e10 _ => ?_)
                exact fin tt d m _ _ H10 ((s78.trans s9).trans s10) e10 ((hrow.same s9).same s10) (hm.same s10) ((ROk.scale okx et zz.2.2 zz.2.1).mono (by decide))
              · repeat walk_at "rd"
                refine r_ixL (.inl (.inl hR6)) iRa ?_
                repeat walk_at "rd"
                refine r_new (by show 2 ≤ 100000; decide) (fun qf H7 hqf s7 e7 _ => ?_)
                repeat walk_at "rd"
                refine ⟨ra, qf, -1, 1, x.1, x.2, rfl, hra.same s7, e7, by decide, by unfold Sz; decide +kernel, by unfold Sz; decide +kernel, okx.mono (by decide), fun d H8 hd s8 hrow => ?_⟩
                have s78 := s7.trans s8
                repeat walk_at "rd"
                refine r_ixL (.inl (.inl (s78 _ _ hF6))) iFa ?_
                repeat walk_at "rd"
                have hf8 := hfa.same s78
                refine r_unOwn hf8.ins ⟨fa, x.1, x.2, rfl, hf8, okx.wok.mono (by decide), sz3 okx.c0 (by decide), fun m H9 s9 hm => ?_⟩
                repeat walk_at "rd"
                refine r_new (by show 2 ≤ 100000; decide) (fun tt H10 htt s10 e10 _ => ?_)
                exact fin tt d m _ _ H10 ((s78.trans s9).trans s10) e10 ((hrow.same s9).same s10) (hm.same s10) ((ROk.scale (m := 1) okx (by decide) (by unfold Sz; decide) (by unfold Sz; decide)).mono (by decide))
            · repeat walk_at "rd"
              refine r_ixL (.inl (.inl hR6)) iRa ?_
              repeat walk_at "rd"
              refine r_new (by show 2 ≤ 100000; decide) (fun qf H7 hqf s7 e7 _ => ?_)
              repeat walk_at "rd"
              refine ⟨ra, qf, -1, 1, x.1, x.2, rfl, hra.same s7, e7, by decide, by unfold Sz; decide +kernel, by unfold Sz; decide +kernel, okx.mono (by decide), fun d H8 hd s8 hrow => ?_⟩
              have s78 := s7.trans s8
              repeat walk_at "rd"
              refine r_ixL (.inl (.inl (s78 _ _ hF6))) iFa ?_
              repeat walk_at "rd"
              have hf8 := hfa.same s78
              refine r_unOwn hf8.ins ⟨fa, x.1, x.2, rfl, hf8, okx.wok.mono (by decide), sz3 okx.c0 (by decide), fun m H9 s9 hm => ?_⟩
              repeat walk_at "rd"
              refine r_new (by show 2 ≤ 100000; decide) (fun tt H10 htt s10 e10 _ => ?_)
              exact fin tt d m _ _ H10 ((s78.trans s9).trans s10) e10 ((hrow.same s9).same s10) (hm.same s10) ((ROk.scale (m := 1) okx (by decide) (by unfold Sz; decide) (by unfold Sz; decide)).mono (by decide))

end
/-! ### one run of the law -/
theorem ne_lst {D a : Addr} {H : Hp} {l : List V} (hD : H D = some (.lst l)) {o : HO} (e : H a = some o) (n : ∀ l, o ≠ .lst l) : a ≠ D := by
  rintro rfl
  rw [hD] at e
  exact n _ (Option.some.inj e).symm
section
variable {K : PySem.W.Frag} {D a : Addr} {H H' : Hp} {l : List V}
theorem TupAt.offL {t b : Int} (h : TupAt H a t b) (hD : H D = some (.lst l)) (ne : ∀ b, b ≠ D → H' b = H b) : TupAt H' a t b := by
  unfold TupAt at h ⊢
  rw [ne a (ne_lst hD h fun l z => by cases z)]
  exact h
theorem RowAt.offL {ws : Ws} (h : RowAt H a ws) (hD : H D = some (.lst l)) (ne : ∀ b, b ≠ D → H' b = H b) : RowAt H' a ws := by
  obtain ⟨kvs, e, p⟩ := h
  exact ⟨kvs, by rw [ne a (ne_lst hD e fun l z => by cases z)]; exact e, p.mono fun _ _ _ x => x.offL hD ne⟩
theorem AmtAt.offL {t b : Int} (h : AmtAt K H a t b) (hD : H D = some (.lst l)) (ne : ∀ b, b ≠ D → H' b = H b) : AmtAt K H' a t b := by
  obtain ⟨dx, e⟩ := h
  exact ⟨dx, by rw [ne a (ne_lst hD e fun l z => by cases z)]; exact e⟩
theorem FrmAt.offL {c : Int × Int} {ws : Ws} (h : FrmAt K H a c ws) (hD : H D = some (.lst l)) (ne : ∀ b, b ≠ D → H' b = H b) : FrmAt K H' a c ws := by
  obtain ⟨dx, ca, d, kvs, e1, e2, e3, e4⟩ := h
  exact ⟨dx, ca, d, kvs, by rw [ne a (ne_lst hD e1 fun l z => by cases z)]; exact e1, e2.offL hD ne, by rw [ne d (ne_lst hD e3 fun l z => by cases z)]; exact e3, e4.mono fun _ _ _ x => x.offL hD ne⟩
theorem RowsAt.offL {rs : List Addr} {cs : List CW} (h : RowsAt H rs cs) (hD : H D = some (.lst l)) (ne : ∀ b, b ≠ D → H' b = H b) : RowsAt H' rs cs := L2.Paired.mapP h fun _ _ x => x.offL hD ne
theorem FrmsAt.offL {rs : List Addr} {cs : List CW} (h : FrmsAt K H rs cs) (hD : H D = some (.lst l)) (ne : ∀ b, b ≠ D → H' b = H b) : FrmsAt K H' rs cs := L2.Paired.mapP h fun _ _ x => x.offL hD ne
theorem kput {p : Addr} {H0 : Hp} (k : KeepBut p H0 H) (hD : H0 D = none) (ne : ∀ b, b ≠ D → H' b = H b) : KeepBut p H0 H' := fun b o hb e => by rw [ne b (ne_of_none e hD)]; exact k b o hb e
theorem ksame {p : Addr} {H0 : Hp} (k : KeepBut p H0 H) (s : Same H H') : KeepBut p H0 H' := fun b o hb e => s _ _ (k b o hb e)
end
/-- a drawn row, cleaned -/
def finC (x : CW) : CW := (low x.1.1 x.1.2, canon (mapLow x.2))
def DrA (cd : List CW) : Prop := ∀ x ∈ cd, Drawn x.1 x.2 5
theorem finC_ok {x : CW} (h : Drawn x.1 x.2 5) : ROk 250 (finC x).1 (finC x).2 := by
  have nc := h.num _ List.mem_cons_self
  have nr : ∀ w ∈ x.2, w.2.2 ≠ 0 := fun w hw => (h.num w (List.mem_cons_of_mem _ hw)).1
  have ndm : ((mapLow x.2).map fun w => w.1).Nodup := by
    unfold mapLow
    rw [List.map_map]
    exact h.nd
  refine ⟨low_lw nc.1, LwA.canon (lwA_low nr), canon_idem ndm, fun w hw => ?_, fun w hw => ?_⟩
  · obtain ⟨y, hy, rfl⟩ := List.mem_map.mp (canon_mem hw).1
    exact h.sym y hy
  · rcases List.mem_cons.mp hw with rfl | hw
    · have := low_ok nc.1 nc.2.1 nc.2.2
      exact ⟨this.1, this.2.1.mono (by decide), this.2.2.mono (by decide)⟩
    · obtain ⟨y, hy, rfl⟩ := List.mem_map.mp (canon_mem hw).1
      have ny := h.num y (List.mem_cons_of_mem _ hy)
      have := low_ok ny.1 ny.2.1 ny.2.2
      exact ⟨this.1, this.2.1.mono (by decide), this.2.2.mono (by decide)⟩
def sp_right : Sp := fun vs H Q _ => ∃ p, vs = [.ref p] ∧ PotAt H p ∧ ∀ H', KeepBut p H H' → Q (.bl true) H'
/-- the larger of the two numbers, as the law takes it -/
def mxI (w : Str × Int × Int) : Int := if w.2.2 > (if w.2.1 < 0 then -w.2.1 else w.2.1) then w.2.2 else (if w.2.1 < 0 then -w.2.1 else w.2.1)
theorem mxI_le {w : Str × Int × Int} {m : Int} (h : mxI w ≤ m) : (w.2.1.natAbs : Int) ≤ m ∧ w.2.2 ≤ m := by
  unfold mxI at h
  split at h <;> split at h <;> omega
theorem rok_max {n : Nat} {c : Int × Int} {ws : Ws} {m : Int} (h : ROk n c ws) (hm : ∀ w ∈ row0 c ws, mxI w ≤ m) (lt : m < 10 ^ 60) : ROk 250 c ws := by
  refine ⟨h.lw, h.lwa, h.cn, h.nm, fun w hw => ?_⟩
  have a := mxI_le (hm w hw)
  have pos : 0 < w.2.2 := by
    rcases List.mem_cons.mp hw with rfl | hw
    · exact h.lw.pos
    · exact (h.lwa w hw).pos
  have big : (10 : Int) ^ 60 ≤ ((2 ^ 250 : Nat) : Int) := by decide +kernel
  unfold Sz
  refine ⟨by omega, ?_, ?_⟩
  · have : (w.2.1.natAbs : Int) < ((2 ^ 250 : Nat) : Int) := by omega
    exact Int.ofNat_lt.mp this
  · have : (w.2.2.natAbs : Int) < ((2 ^ 250 : Nat) : Int) := by omega
    exact Int.ofNat_lt.mp this
theorem r_vals {td : TE} {σ : L2.St} {H : Hp} {R : It → Hp → Prop} (q : td σ H fun x H1 => ∃ d o kvs, x = .ref d ∧ H1 d = some (.frz o (.dK kvs)) ∧ R (Itd d o kvs) H1) : iVals td σ H R := q
theorem eqK_P {H : Hp} {ka kb : List (Key × V)} {ws ws2 : Ws} (ha : PsAt H ka ws) (hb : PsAt H kb ws2) (nd : (ws.map fun w => w.1).Nodup) : eqK ka kb (fun k => match k with | .inr z => decide (wsGet ws z = wsGet ws2 z) | .inl _ => false) = eqW ws ws2 := by
  unfold eqK eqW
  rw [ha.length, hb.length]
  congr 1
  have go : ∀ {ka : List (Key × V)} {wt : Ws}, PsAt H ka wt → (∀ w ∈ wt, wsGet ws w.1 = w.2) →
      (ka.all fun kv => (valV kb kv.1).isSome && (match kv.1 with | .inr z => decide (wsGet ws z = wsGet ws2 z) | .inl _ => false)) = wt.all fun w => ws2.any (fun y => decide (y.1 = w.1)) && decide (w.2 = wsGet ws2 w.1) := by
    intro ka wt h
    induction h with
    | nil => intro _; rfl
    | @cons z a t b kvs wt hp _ ih =>
      intro hw
      rw [List.all_cons, List.all_cons, ih (fun w m => hw w (List.mem_cons_of_mem _ m)), val_any, hb.any]
      have e := hw (z, t, b) List.mem_cons_self
      show ((ws2.any _ && decide (wsGet ws z = wsGet ws2 z)) && _) = _
      rw [show wsGet ws z = (t, b) from e]
  exact go ha fun w m => wsGet_of nd m
def sameB (x y : CW) : Bool := decide (x.1.1 = y.1.1 ∧ x.1.2 = y.1.2) && eqW x.2 y.2
theorem eqW_row0 {c c2 : Int × Int} {ws ws2 : Ws} (h : ∀ w ∈ ws, w.1 ≠ "") : eqW (row0 c ws) (row0 c2 ws2) = sameB (c, ws) (c2, ws2) := by
  unfold sameB eqW
  rw [List.all_cons, wsGet_row0, List.length_cons, List.length_cons]
  have a1 : ((row0 c2 ws2).any fun y => decide (y.1 = (Str.ofString "", c).1)) = true := by rw [List.any_cons, decide_eq_true rfl]; rfl
  rw [a1, Bool.true_and]
  have a2 : (ws.all fun w => ((row0 c2 ws2).any fun y => decide (y.1 = w.1)) && decide (w.2 = wsGet (row0 c2 ws2) w.1)) = ws.all fun w => (ws2.any fun y => decide (y.1 = w.1)) && decide (w.2 = wsGet ws2 w.1) := by
    rw [Bool.eq_iff_iff, List.all_eq_true, List.all_eq_true]
    refine forall_congr' fun w => forall_congr' fun hw => ?_
    have n := h w hw
    rw [wsGet_rowN n, List.any_cons, decide_eq_false (fun q => n q.symm), Bool.false_or]
  rw [a2]
  have a3 : (ws.length + 1 == ws2.length + 1) = (ws.length == ws2.length) := by
    rw [Bool.eq_iff_iff, beq_iff_eq, beq_iff_eq]; omega
  have a4 : decide ((Str.ofString "", c).2 = c2) = decide (c.1 = c2.1 ∧ c.2 = c2.2) := decide_eq_decide.mpr ⟨fun e => by rw [show c = c2 from e]; exact ⟨rfl, rfl⟩, fun e => Prod.ext e.1 e.2⟩
  rw [a3, a4]
  cases decide (c.1 = c2.1 ∧ c.2 = c2.2) <;> cases (ws.length == ws2.length) <;> simp
theorem r_rowEq {K : PySem.W.Frag} {H : Hp} {Q : VK} {p q : Addr} {x y : CW} {n m : Nat} (h : RowAt H p (row0 x.1 x.2)) (h' : RowAt H q (row0 y.1 y.2)) (ox : ROk n x.1 x.2) (oy : ROk m y.1 y.2) (k : Q (.bl (sameB x y)) H) : rEqDD K (.ref p) (.ref q) H Q := by
  obtain ⟨ka, ea, pa⟩ := h
  obtain ⟨kb, eb, pb⟩ := h'
  refine ⟨p, q, ka, kb, (fun k => match k with | .inr z => decide (wsGet (row0 x.1 x.2) z = wsGet (row0 y.1 y.2) z) | .inl _ => false), rfl, rfl, ea, eb, fun key v u mk hu => ?_, ?_⟩
  · obtain ⟨i, hi⟩ := List.mem_iff_getElem?.mp mk
    obtain ⟨w, a, ew, rfl, rfl, ha⟩ := pa.get2 i key v hi
    rcases pb.get (z := w.1) with ⟨e1, _⟩ | ⟨b, e1, hb⟩
    · rw [hu] at e1; cases e1
    · rw [hu] at e1
      cases e1
      have gw := wsGet_of ox.nd0 (List.mem_of_getElem? ew)
      refine ⟨a, b, _, _, rfl, rfl, dp_pair ha, dp_pair hb, shaped_pair _ _, shaped_pair _ _, ?_, fun e => ?_⟩
      · rw [eqv_pair]
        show decide (wsGet (row0 x.1 x.2) w.1 = wsGet (row0 y.1 y.2) w.1) = _
        rw [gw]
        exact decide_eq_decide.mpr ⟨fun e => by rw [e]; exact ⟨rfl, rfl⟩, fun e => Prod.ext e.1 e.2⟩
      · subst e
        unfold TupAt at ha hb
        rw [ha] at hb
        injection hb with hb
        injection hb with hb
        injection hb with h1 h2
        injection h2 with h2 _
        injection h1 with h1
        injection h2 with h2
        show decide (wsGet (row0 x.1 x.2) w.1 = wsGet (row0 y.1 y.2) w.1) = true
        rw [gw]
        exact decide_eq_true (Prod.ext h1 h2)
  · rw [eqK_P pa pb ox.nd0, eqW_row0 (fun w hw => (names7_ok _ (ox.nm w hw)).2.2)]
    exact k
theorem eqW_refl {ws : Ws} (nd : (ws.map fun w => w.1).Nodup) : eqW ws ws = true := by
  unfold eqW
  rw [beq_self_eq_true, Bool.true_and, List.all_eq_true]
  intro w hw
  rw [wsGet_of nd hw, decide_eq_true rfl, Bool.and_true]
  exact any_key.mpr (List.mem_map.mpr ⟨w, hw, rfl⟩)
theorem r_cmN {C : Addr} {n : Nat} {ks : List Str} {sp : Sp} {dvs : List V} {E : XK} {ta : TE} {t tk : TA} {σ : L2.St} {H : Hp} {Q : VK} (q : ta σ H fun x H1 => x = .ref C ∧ t σ H1 fun vs H2 => tk σ H2 fun zs H3 => vs.length = n ∧ zs.length = ks.length ∧ ks.length ≤ 1000 ∧
  ∀ d, H3 d = none → sp (.ref C :: vs ++ dvs ++ [.ref d]) (upd H3 d (.dK (kwD ks zs))) Q E) : tCMethN C n ks sp dvs E ta t tk σ H Q := q
theorem r_smN {C : Addr} {sp : Sp} {E : XK} {ta : TE} {t : TA} {σ : L2.St} {H : Hp} {Q : VK} (q : ta σ H fun x H1 => x = .ref C ∧ t σ H1 fun vs H2 => sp (vs ++ []) H2 Q E) : tSMeth C sp E ta t σ H Q := q
/-- two names, as the law draws them -/
def two2 (x y : Int × Int) : Ws := [("b", x), ("a2", y)]
theorem two2_nd {x y : Int × Int} : ((two2 x y).map fun w => w.1).Nodup := by
  show (["b", "a2"] : List Str).Nodup
  decide +kernel
theorem two2_canon {x y : Int × Int} : canon (two2 x y) = clean [(("a2" : Str), y), (("b" : Str), x)] := by
  unfold canon
  show clean (sortK (fun w : Str × Int × Int => w.1) [(("b" : Str), x), (("a2" : Str), y)]) = _
  rw [← sortK_is (l1 := [(("a2" : Str), y), (("b" : Str), x)]) (.swap ..) two2_nd (by show sortedS ["a2", "b"] = true; decide +kernel)]
theorem two2_get {x y : Int × Int} : canon (two2 (wsGet (canon (two2 x y)) "b") (wsGet (canon (two2 x y)) "a2")) = canon (two2 x y) := by
  rw [two2_canon, two2_canon]
  have n1 : ¬ (("a2" : Str) = "b") := by decide +kernel
  have n2 : ¬ (("b" : Str) = "a2") := by decide +kernel
  unfold clean
  by_cases hx : x.1 = 0 <;> by_cases hy : y.1 = 0 <;> simp [hx, hy, wsGet, n1, n2]
theorem two2_sym {x y : Int × Int} : ∀ w ∈ two2 x y, symB w.1 = true ∧ w.1.length ≤ sizeLine := fun w hw => by
  have m : w.1 ∈ (["b", "a2"] : List Str) := List.mem_map.mpr ⟨w, hw, rfl⟩
  have all : ∀ z ∈ (["b", "a2"] : List Str), symB z = true ∧ z.length ≤ sizeLine := by decide +kernel
  exact all _ m
theorem formT_0 : formT (0, 1) [] = "0" := by decide +kernel
theorem formT_ab : formT (0, 1) [("a.b", 1, 1)] = "a.b" := by decide +kernel
theorem wok_ab : WOk 1900 [(("a.b" : Str), 1, 1)] := by
  have h : ∀ w ∈ [(("a.b" : Str), (1 : Int), (1 : Int))], w = (("a.b" : Str), (1 : Int), (1 : Int)) := fun w hw => List.mem_singleton.mp hw
  refine ⟨fun w hw => ?_, by rw [List.map_cons, List.map_nil, List.nodup_cons]; exact ⟨List.not_mem_nil, List.nodup_nil⟩, by decide, fun w hw => ?_⟩
  · rw [h w hw]; exact ⟨by decide +kernel, by decide +kernel⟩
  · rw [h w hw]; exact ⟨by decide, by unfold Sz; decide +kernel, by unfold Sz; decide +kernel⟩
def fourD : PyData := .list [.str "0", .str "a.b", .bool true, .bool false]
theorem four_shaped : SeqAt.shaped fourD = true := by decide +kernel
theorem eqW_nil : eqW [] [] = true := rfl

section
variable {P : Program} {w : World} {K : PySem.W.Frag} {mg : Str → Option Value} {base : Heap}
theorem sc_l_right : FnScope ["_law_pot_here", "_law_rows", "_law_turn", "_law_forms", "_law_row", "_law_made", "_law_pair_here", "_law_spot", "_law_told", "_law_form_here", "_law_drawn_here", "_law_twin"] ["_law_pot_here"] (defScope s_l_right) := ⟨rfl, rfl, rfl, by decide +kernel, rfl, by decide +kernel, by decide +kernel⟩
theorem ok_l_right (T : Tx K mg) : FnG P w K mg base CX0 true 12 (He.ga K "_law_right") T.fd_l_right ["_law_pot_here"] (sp_right) := by
  refine funG T.F_l_right sc_l_right (fun vs H Q E h => ?_) (fun cdv A outer s H vs Q E hr hg h => ?_)
  · obtain ⟨p, e, _⟩ := h; rw [e]; rfl
  · obtain ⟨p, rfl, hp, k⟩ := h
    refine ⟨_, (pss_cons (ps_set (i := 1) sc_l_right.nd rfl (by first | exact Or.inl rfl | exact Or.inr rfl) (pe_lc (own := [("_law_turn", 2)]) (by rfl) sc_l_right.nd (pi_range1 (by rfl) T.m_range (pa_cons pe_int pa_nil)) (blkOk_by (own := [("_law_turn", 2)]) (N := ["_law_pot_here", "_law_rows", "_law_turn", "_law_forms", "_law_row", "_law_made", "_law_pair_here", "_law_spot", "_law_told", "_law_form_here", "_law_drawn_here", "_law_twin"]) (sc := defScope s_l_right) (by decide +kernel)) (fun _ _ _ _ _ => (pg_name (i := 2) sc_l_right.nd rfl (by first | exact Or.inl rfl | exact Or.inr rfl))) (fun _ _ _ _ _ => pts_nil) (fun _ _ _ _ _ => (pg_call (ok_l_drawn T) (hr.mono (by decide)) hg (by rfl) T.g_l_drawn T.F_l_drawn.kp T.b_l_drawn .nil pass0 (pa_cons (pv 0) pa_nil)))))
    (pss_cons (ps_set (i := 3) sc_l_right.nd rfl (by first | exact Or.inl rfl | exact Or.inr rfl) (pe_lc (own := [("_law_row", 4)]) (by rfl) sc_l_right.nd (pi_list (pv 1)) (blkOk_by (own := [("_law_row", 4)]) (N := ["_law_pot_here", "_law_rows", "_law_turn", "_law_forms", "_law_row", "_law_made", "_law_pair_here", "_law_spot", "_law_told", "_law_form_here", "_law_drawn_here", "_law_twin"]) (sc := defScope s_l_right) (by decide +kernel)) (fun _ _ _ _ _ => (pg_name (i := 4) sc_l_right.nd rfl (by first | exact Or.inl rfl | exact Or.inr rfl))) (fun _ _ _ _ _ => pts_nil) (fun _ _ _ _ _ => (pg_call (ok_l_form T) (hr.mono (by decide)) hg (by rfl) T.g_l_form T.F_l_form.kp T.b_l_form .nil pass0 (pa_cons (pv 4) (pa_cons (pe_cmpR op_eq (pg_call (ok_l_digit T) (hr.mono (by decide)) hg (by rfl) T.g_l_digit T.F_l_digit.kp T.b_l_digit .nil pass0 (pa_cons (pv 0) (pa_cons pe_int pa_nil))) pe_int (nomark _)) pa_nil))))))
    (pss_cons (ps_set (i := 1) sc_l_right.nd rfl (by first | exact Or.inl rfl | exact Or.inr rfl) (pe_lc (own := [("_law_row", 4)]) (by rfl) sc_l_right.nd (pi_list (pv 1)) (blkOk_by (own := [("_law_row", 4)]) (N := ["_law_pot_here", "_law_rows", "_law_turn", "_law_forms", "_law_row", "_law_made", "_law_pair_here", "_law_spot", "_law_told", "_law_form_here", "_law_drawn_here", "_law_twin"]) (sc := defScope s_l_right) (by decide +kernel)) (fun _ _ _ _ _ => (pg_name (i := 4) sc_l_right.nd rfl (by first | exact Or.inl rfl | exact Or.inr rfl))) (fun _ _ _ _ _ => pts_nil) (fun _ _ _ _ _ => (pg_call (ok_l_clean T) (hr.mono (by decide)) hg (by rfl) T.g_l_clean T.F_l_clean.kp T.b_l_clean .nil pass0 (pa_cons (pv 4) pa_nil)))))
    (pss_cons (ps_for PassesOwn.never (by rfl) (pi_range1 (by rfl) T.m_range (pa_cons (pg_call (ok_l_digit T) (hr.mono (by decide)) hg (by rfl) T.g_l_digit T.F_l_digit.kp T.b_l_digit .nil pass0 (pa_cons (pv 0) (pa_cons pe_int pa_nil))) pa_nil)) (pg_name (i := 2) sc_l_right.nd rfl (by first | exact Or.inl rfl | exact Or.inr rfl)) (pss_cons (ps_asg (pg_call (ok_l_step T) (hr.mono (by decide)) hg (by rfl) T.g_l_step T.F_l_step.kp T.b_l_step .nil pass0 (pa_cons (pv 0) (pa_cons (pv 1) (pa_cons (pv 3) pa_nil)))) (pg_tupK (K' := K) (n := 2) (by rfl) (pgs_cons (pg_name (i := 4) sc_l_right.nd rfl (by first | exact Or.inl rfl | exact Or.inr rfl)) (pgs_cons (pg_name (i := 5) sc_l_right.nd rfl (by first | exact Or.inl rfl | exact Or.inr rfl)) pgs_nil))))
    (pss_cons (ps_if (pt_not (pt_val (pg_call (ok_l_is T) (hr.mono (by decide)) hg (by rfl) T.g_l_is T.F_l_is.kp T.b_l_is .nil pass0 (pa_cons (pv 5) (pa_cons (pv 4) pa_nil))))) (pss_one (ps_ret pe_bl)) pss_nil)
    (pss_one (ps_if (pt_cmpR op_lt (pe_callB (cr_max rfl) (by rfl) T.m_max (by decide +kernel) (pa_cons (pe_lock (pe_lc (own := [("_law_pair_here", 6)]) (by rfl) sc_l_right.nd (pi_values (pv 4)) (blkOk_by (own := [("_law_pair_here", 6)]) (N := ["_law_pot_here", "_law_rows", "_law_turn", "_law_forms", "_law_row", "_law_made", "_law_pair_here", "_law_spot", "_law_told", "_law_form_here", "_law_drawn_here", "_law_twin"]) (sc := defScope s_l_right) (by decide +kernel)) (fun _ _ _ _ _ => (pg_name (i := 6) sc_l_right.nd rfl (by first | exact Or.inl rfl | exact Or.inr rfl))) (fun _ _ _ _ _ => pts_nil) (fun _ _ _ _ _ => (pe_callB (call_max2 rfl) (by rfl) T.m_max (by decide +kernel) (pa_cons (pe_callB call_abs (by rfl) T.m_abs (by decide +kernel) (pa_cons (pe_ix (ix_tupK (K' := K)) (pv 6) pe_int (fun _ _ => rfl)) pa_nil)) (pa_cons (pe_ix (ix_tupK (K' := K)) (pv 6) pe_int (fun _ _ => rfl)) pa_nil)))))) pa_nil)) (pe_op op_pow pe_int pe_int) (nomark _)) (pss_cons (ps_expr (pe_bm PySem.F.plainAttrs_list PySem.F.slot_list_append PySem.F.type_list_append mt_append (pv 1) (pa_cons (pv 4) pa_nil)))
    (pss_one (ps_expr (pe_bm PySem.F.plainAttrs_list PySem.F.slot_list_append PySem.F.type_list_append mt_append (pv 3) (pa_cons (pv 5) pa_nil))))) pss_nil)))))
    (pss_cons (ps_set (i := 7) sc_l_right.nd rfl (by first | exact Or.inl rfl | exact Or.inr rfl) (pg_call (ok_l_digit T) (hr.mono (by decide)) hg (by rfl) T.g_l_digit T.F_l_digit.kp T.b_l_digit .nil pass0 (pa_cons (pv 0) (pa_cons (pe_callB call_len_seq (by rfl) T.m_len (by decide +kernel) (pa_cons (pv 1) pa_nil)) pa_nil))))
    (pss_cons (ps_setLc (i := 8) (own := [("_law_form_here", 9)]) (by rfl) sc_l_right.nd rfl rfl (sw_true rfl rfl rfl (by decide +kernel)) (pi_list (pv 3)) (blkOk_by (own := [("_law_form_here", 9)]) (N := ["_law_pot_here", "_law_rows", "_law_turn", "_law_forms", "_law_row", "_law_made", "_law_pair_here", "_law_spot", "_law_told", "_law_form_here", "_law_drawn_here", "_law_twin"]) (sc := defScope s_l_right) (by decide +kernel)) (fun _ _ _ _ _ => (pg_name (i := 9) sc_l_right.nd rfl (by first | exact Or.inl rfl | exact Or.inr rfl))) (fun _ _ _ _ _ => pts_nil) (fun _ _ _ _ _ => (pe_callB cr_reprB (by rfl) T.m_repr (by decide +kernel) (pa_cons (pe_cmpR (op_eqOwn T.o_Form_eq (ok_FormU_eqU T) (hr.mono (by decide)) hg T.b_FormU_eqU pass0) (pv 9) (pe_ix (ix_listK (K' := K)) (pv 3) (pv 7) (fun _ _ => rfl)) (nomark _)) pa_nil))))
    (pss_cons (ps_if (pt_cmpR (op_neD hr.units) (pv 8) (pe_lc (own := [("_law_row", 4)]) (by rfl) sc_l_right.nd (pi_list (pv 1)) (blkOk_by (own := [("_law_row", 4)]) (N := ["_law_pot_here", "_law_rows", "_law_turn", "_law_forms", "_law_row", "_law_made", "_law_pair_here", "_law_spot", "_law_told", "_law_form_here", "_law_drawn_here", "_law_twin"]) (sc := defScope s_l_right) (by decide +kernel)) (fun _ _ _ _ _ => (pg_name (i := 4) sc_l_right.nd rfl (by first | exact Or.inl rfl | exact Or.inr rfl))) (fun _ _ _ _ _ => pts_nil) (fun _ _ _ _ _ => (pe_callB cr_reprB (by rfl) T.m_repr (by decide +kernel) (pa_cons (pe_cmpR (op_eqDDK (K' := K) (hr.mono (by decide))) (pv 4) (pe_ix (ix_listK (K' := K)) (pv 1) (pv 7) (fun _ _ => rfl)) (nomark _)) pa_nil)))) (nomark _)) (pss_one (ps_ret pe_bl)) pss_nil)
    (pss_cons (ps_set (i := 10) sc_l_right.nd rfl (by first | exact Or.inl rfl | exact Or.inr rfl) (pg_cmethN (pe_glob (v := .ref (He.ga K "Form")) (by rfl) T.g_Form rfl) T.cr_Form T.cm_Form_of (ok_Form_of T) (hr.mono (by decide)) hg (kb_Form_of_1_b_a2 T) (by decide) pass0 (pa_cons (pe_op op_sub (pg_call (ok_l_digit T) (hr.mono (by decide)) hg (by rfl) T.g_l_digit T.F_l_digit.kp T.b_l_digit .nil pass0 (pa_cons (pv 0) (pa_cons pe_int pa_nil))) pe_int) pa_nil) (pk_cons (pg_make T.k_Amount (ok_AmountU_initU T) (hr.mono (by decide)) hg (by rfl) T.g_Amount T.b_AmountU_initU .nil pass0 (pa_cons (pe_ix (ix_tupK (K' := K)) (pe_dget (Nat.lt_of_le_of_lt (Nat.add_le_add_left (by decide : 1 ≤ 64) _) hr.units) (pe_ix (ix_listK (K' := K)) (pv 1) pe_int (fun _ _ => rfl)) pe_str (fun _ _ => rfl)) pe_int (fun _ _ => rfl)) (pa_cons (pe_ix (ix_tupK (K' := K)) (pe_dget (Nat.lt_of_le_of_lt (Nat.add_le_add_left (by decide : 1 ≤ 64) _) hr.units) (pe_ix (ix_listK (K' := K)) (pv 1) pe_int (fun _ _ => rfl)) pe_str (fun _ _ => rfl)) pe_int (fun _ _ => rfl)) pa_nil))) (pk_cons (pe_op op_sub (pg_call (ok_l_digit T) (hr.mono (by decide)) hg (by rfl) T.g_l_digit T.F_l_digit.kp T.b_l_digit .nil pass0 (pa_cons (pv 0) (pa_cons pe_int pa_nil))) pe_int) pk_nil))))
    (pss_cons (ps_set (i := 11) sc_l_right.nd rfl (by first | exact Or.inl rfl | exact Or.inr rfl) (pg_make T.k_Form (ok_FormU_initU T) (hr.mono (by decide)) hg (by rfl) T.g_Form T.b_FormU_initU .nil pass0 (pa_cons (pg_prop (pv 10) T.c_Form T.p_Form_constant_part (ok_Form_constant_part T) (hr.mono (by decide)) hg T.b_Form_constant_part .nil pass0 rfl) (pa_cons (pe_disp (pps_cons pe_str (pg_meth (pv 10) T.c_Form T.mt_Form_weight (ok_Form_weight T) (hr.mono (by decide)) hg T.b_Form_weight .nil pass0 (pa_cons pe_str pa_nil)) (pps_cons pe_str (pg_meth (pv 10) T.c_Form T.mt_Form_weight (ok_Form_weight T) (hr.mono (by decide)) hg T.b_Form_weight .nil pass0 (pa_cons pe_str pa_nil)) pps_nil)) (by rfl) (by rfl) (fun h => nomatch h) (by decide)) pa_nil))))
    (pss_cons (ps_if (PW.pt (pw_or (pt_cmpR (op_neOwn T.o_Form_ne (ok_FormU_eqU T) (hr.mono (by decide)) hg T.b_FormU_eqU pass0) (pv 10) (pv 11) (nomark _)) (pw_or1 (pt_cmpR (op_eqOwn T.o_Form_eq (ok_FormU_eqU T) (hr.mono (by decide)) hg T.b_FormU_eqU pass0) (pv 10) pe_str (nomark _))))) (pss_one (ps_ret pe_bl)) pss_nil)
    (pss_cons (ps_if (pt_cmpR (op_neD hr.units) (pe_lst (pa_cons (pe_callTy (cr_strOwn T.o_Form_str (ok_FormU_strU T) (hr.mono (by decide)) hg T.b_FormU_strU pass0) (by rfl) T.m_str (by decide +kernel) (pa_cons (pg_make0 T.k_Form (ok_FormU_initU T) (hr.mono (by decide)) hg (by rfl) T.g_Form T.b_FormU_initU_0.choose_spec.2 T.b_FormU_initU_0.choose_spec.1 pass0) pa_nil)) (pa_cons (pe_callTy (cr_strOwn T.o_Form_str (ok_FormU_strU T) (hr.mono (by decide)) hg T.b_FormU_strU pass0) (by rfl) T.m_str (by decide +kernel) (pa_cons (pg_smeth (pe_glob (v := .ref (He.ga K "Form")) (by rfl) T.g_Form rfl) T.cr_Form T.sm_Form_symbol (ok_Form_symbol T) (hr.mono (by decide)) hg T.b_Form_symbol pass0 (pa_cons pe_str pa_nil)) pa_nil)) (pa_cons (pe_cmpR (op_eqOwn T.o_Form_eq (ok_FormU_eqU T) (hr.mono (by decide)) hg T.b_FormU_eqU pass0) (pg_make T.k_Form (ok_FormU_initU T) (hr.mono (by decide)) hg (by rfl) T.g_Form T.b_FormU_initU_1.choose_spec.2 T.b_FormU_initU_1.choose_spec.1 pass0 (pa_cons pe_int pa_nil)) (pg_cmethN (pe_glob (v := .ref (He.ga K "Form")) (by rfl) T.g_Form rfl) T.cr_Form T.cm_Form_of (ok_Form_of T) (hr.mono (by decide)) hg (kb_Form_of_1 T) (by decide) pass0 (pa_cons pe_int pa_nil) pk_nil) (nomark _)) (pa_cons (pe_cmpR (op_eqOwn T.o_Form_eq (ok_FormU_eqU T) (hr.mono (by decide)) hg T.b_FormU_eqU pass0) (pg_make T.k_Form (ok_FormU_initU T) (hr.mono (by decide)) hg (by rfl) T.g_Form T.b_FormU_initU_1.choose_spec.2 T.b_FormU_initU_1.choose_spec.1 pass0 (pa_cons pe_int pa_nil)) pe_int (nomark _)) pa_nil))))) (pe_lst (pa_cons pe_str (pa_cons pe_str (pa_cons pe_bl (pa_cons pe_bl pa_nil))))) (nomark _)) (pss_one (ps_ret pe_bl)) pss_nil)
    (pss_cons (ps_if (PW.pt (pw_or (pt_cmpR (op_eqTwo T.e_Form_Amount (ok_FormU_eqU T) (hr.mono (by decide)) hg T.b_FormU_eqU pass0) (pg_make T.k_Form (ok_FormU_initU T) (hr.mono (by decide)) hg (by rfl) T.g_Form T.b_FormU_initU_1.choose_spec.2 T.b_FormU_initU_1.choose_spec.1 pass0 (pa_cons pe_int pa_nil)) (pg_make T.k_Amount (ok_AmountU_initU T) (hr.mono (by decide)) hg (by rfl) T.g_Amount T.b_AmountU_initU_1.choose_spec.2 T.b_AmountU_initU_1.choose_spec.1 pass0 (pa_cons pe_int pa_nil)) (nomark _)) (pw_or (pt_cmpR (op_eqTwo T.e_Amount_Form (ok_AmountU_eqU T) (hr.mono (by decide)) hg T.b_AmountU_eqU pass0) (pg_make T.k_Amount (ok_AmountU_initU T) (hr.mono (by decide)) hg (by rfl) T.g_Amount T.b_AmountU_initU_1.choose_spec.2 T.b_AmountU_initU_1.choose_spec.1 pass0 (pa_cons pe_int pa_nil)) (pg_make T.k_Form (ok_FormU_initU T) (hr.mono (by decide)) hg (by rfl) T.g_Form T.b_FormU_initU_1.choose_spec.2 T.b_FormU_initU_1.choose_spec.1 pass0 (pa_cons pe_int pa_nil)) (nomark _)) (pw_or1 (pt_not (pt_cmpR (op_neTwo T.e_Form_Amount T.o_Form_ne (ok_FormU_eqU T) (hr.mono (by decide)) hg T.b_FormU_eqU pass0) (pg_make T.k_Form (ok_FormU_initU T) (hr.mono (by decide)) hg (by rfl) T.g_Form T.b_FormU_initU_1.choose_spec.2 T.b_FormU_initU_1.choose_spec.1 pass0 (pa_cons pe_int pa_nil)) (pg_make T.k_Amount (ok_AmountU_initU T) (hr.mono (by decide)) hg (by rfl) T.g_Amount T.b_AmountU_initU_1.choose_spec.2 T.b_AmountU_initU_1.choose_spec.1 pass0 (pa_cons pe_int pa_nil)) (nomark _))))))) (pss_one (ps_ret pe_bl)) pss_nil)
    (pss_one (ps_ret (pe_callB (cr_all rfl) (by rfl) T.m_all (by decide +kernel) (pa_cons (pe_lc (own := [("_law_form_here", 9), ("_law_row", 4)]) (by rfl) sc_l_right.nd (pi_zip (by rfl) T.m_zip (pa_cons (pv 3) (pa_cons (pv 1) pa_nil))) (blkOk_by (own := [("_law_form_here", 9), ("_law_row", 4)]) (N := ["_law_pot_here", "_law_rows", "_law_turn", "_law_forms", "_law_row", "_law_made", "_law_pair_here", "_law_spot", "_law_told", "_law_form_here", "_law_drawn_here", "_law_twin"]) (sc := defScope s_l_right) (by decide +kernel)) (fun _ _ _ _ _ => (pg_tupK (K' := K) (n := 2) (by rfl) (pgs_cons (pg_name (i := 9) sc_l_right.nd rfl (by first | exact Or.inl rfl | exact Or.inr rfl)) (pgs_cons (pg_name (i := 4) sc_l_right.nd rfl (by first | exact Or.inl rfl | exact Or.inr rfl)) pgs_nil)))) (fun _ _ _ _ _ => pts_nil) (fun _ _ _ _ _ => (pg_call (ok_l_is T) (hr.mono (by decide)) hg (by rfl) T.g_l_is T.F_l_is.kp T.b_l_is .nil pass0 (pa_cons (pv 9) (pa_cons (pv 4) pa_nil))))) pa_nil)))))))))))))))), ?_⟩
    walk_at "st"
    repeat walk_at "rd"
    refine ⟨by decide, by decide, u_lcR (k := 4) (fun D H1 hD s1 e1 _ => ⟨fun i H' => ∃ rs cd, H' D = some (.lst (rs.map V.ref)) ∧ RowsAt H' rs cd ∧ DrA cd ∧ cd.length = i ∧ PotAt H' p ∧ KeepBut p H H',
      ⟨[], [], e1, .nil, (fun x hx => nomatch hx), rfl, hp.same s1, fun b o _ e => s1 _ _ e⟩, ?_, ?_⟩)⟩
    · rintro i H2 hi ⟨rs, cd, e2, r2, dr2, l2, hp2, k2⟩
      repeat walk_at "rd"
      refine ⟨rfl, ?_⟩
      repeat walk_at "rd"
      refine ⟨p, rfl, hp2, fun d c rest H3 hd hrow hdr hp3 k3 => ?_⟩
      have nDp : D ≠ p := hp.neqD hD
      have e3 := k3 D _ nDp e2
      have rl : rs.length = cd.length := Paired.length r2
      refine g_grow e3 (by rw [List.length_map]; omega) (fun H4 e4 ne4 => ?_)
      refine ⟨rs ++ [d], cd ++ [(c, rest)], by rw [e4, List.map_append]; rfl, pair_app ((r2.keep k3 hp2).offL e3 ne4) (hrow.offL e3 ne4), fun x hx => ?_, by rw [List.length_append, l2]; rfl, hp3.offD nDp ne4, kput (fun b o hb e => k3 b o hb (k2 b o hb e)) hD ne4⟩
      rcases List.mem_append.mp hx with h | h
      · exact dr2 x h
      · rw [List.mem_singleton.mp h]; exact hdr
    rintro H2 ⟨rs, cd, e2, r2, dr2, l2, hp2, k2⟩
    have nDp : D ≠ p := hp.neqD hD
    clear e1 s1
    repeat walk_at "rd"
    refine u_lcL (xs := rs.map V.ref) (fun F H3 hF s3 e3 _ => ⟨fun i H' => ∃ fs, H' F = some (.lst (fs.map V.ref)) ∧ FrmsAt K H' fs ((cd.take i).map finC) ∧ RowsAt H' rs cd ∧ H' D = some (.lst (rs.map V.ref)) ∧ PotAt H' p ∧ KeepBut p H H',
      ⟨[], e3, .nil, r2.same s3, s3 _ _ e2, hp2.same s3, ksame k2 s3⟩, (fun i H' _ z => by obtain ⟨_, _, _, _, z, _⟩ := z; exact .inl (.inl z)), ?_, ?_⟩)
    · rintro i v H4 hi ⟨fs, e4, f4, r4, d4, hp4, k4⟩
      rw [List.getElem?_map] at hi
      obtain ⟨ra, era, rfl⟩ := Option.map_eq_some_iff.mp hi
      have il := (List.getElem?_eq_some_iff.mp era).1
      have rl : rs.length = cd.length := Paired.length r4
      obtain ⟨x, hx⟩ : ∃ x, cd[i]? = some x := ⟨_, List.getElem?_eq_getElem (by omega)⟩
      obtain ⟨ra', era', hra⟩ := pair_get r4 hx
      obtain rfl : ra' = ra := Option.some.inj (era'.symm.trans era)
      repeat walk_at "rd"
      refine ⟨rfl, ?_⟩
      repeat walk_at "rd"
      refine ⟨p, 2, rfl, hp4, by decide, by decide, fun dg H5 _ _ hp5 k5 => ?_⟩
      have nFp : F ≠ p := hp2.neqD hF
      have nDF : D ≠ F := fun z => by rw [z, hF] at e2; cases e2
      repeat walk_at "rd"
      refine ⟨ra', _, x.1, x.2, rfl, hra.keep k5 hp4, dr2 x (List.mem_of_getElem? hx), fun a H6 s6 ha => ?_⟩
      have e6 := s6 _ _ (k5 F _ nFp e4)
      have fl : fs.length = ((cd.take i).map finC).length := Paired.length f4
      rw [List.length_map, List.length_take] at fl
      have hFH : H F = none := by
        cases e : H F with
        | none => rfl
        | some o => rw [k2 F o nFp e] at hF; cases hF
      refine g_grow e6 (by rw [List.length_map]; omega) (fun H7 e7 ne7 => ?_)
      refine ⟨fs ++ [a], by rw [e7, List.map_append]; rfl, ?_, ((r4.keep k5 hp4).same s6).offL e6 ne7, by rw [ne7 D nDF]; exact s6 _ _ (k5 D _ nDp d4), (hp5.same s6).offD nFp ne7, kput (ksame (fun b o hb e => k5 b o hb (k4 b o hb e)) s6) hFH ne7⟩
      rw [List.take_add_one, hx, List.map_append]
      exact pair_app (((f4.keep k5 hp4).same s6).offL e6 ne7) (ha.offL e6 ne7)
    rintro H4 ⟨fs, e4, f4, r4, d4, hp4, k4⟩
    have rl : rs.length = cd.length := Paired.length r4
    rw [List.length_map, rl, List.take_length] at f4
    have nFp : F ≠ p := hp2.neqD hF
    have hFH : H F = none := by
      cases e : H F with
      | none => rfl
      | some o => rw [k2 F o nFp e] at hF; cases hF
    clear e3 s3 e2 r2 hp2 k2
    repeat walk_at "rd"
    refine u_lcL (xs := rs.map V.ref) (fun R H5 hR s5 e5 _ => ⟨fun i H' => ∃ qs, H' R = some (.lst (qs.map V.ref)) ∧ RowsAt H' qs ((cd.take i).map finC) ∧ Same H4 H',
      ⟨[], e5, .nil, s5⟩, (fun i H' _ z => by obtain ⟨_, _, _, z⟩ := z; exact .inl (.inl (z _ _ d4))), ?_, ?_⟩)
    · rintro i v H6 hi ⟨qs, e6, q6, s6⟩
      rw [List.getElem?_map] at hi
      obtain ⟨ra, era, rfl⟩ := Option.map_eq_some_iff.mp hi
      have il := (List.getElem?_eq_some_iff.mp era).1
      obtain ⟨x, hx⟩ : ∃ x, cd[i]? = some x := ⟨_, List.getElem?_eq_getElem (by omega)⟩
      obtain ⟨ra', era', hra⟩ := pair_get (r4.same s6) hx
      obtain rfl : ra' = ra := Option.some.inj (era'.symm.trans era)
      have dx := dr2 x (List.mem_of_getElem? hx)
      have d5 := dx.few
      repeat walk_at "rd"
      refine ⟨rfl, ?_⟩
      repeat walk_at "rd"
      refine ⟨ra', x.1, x.2, rfl, hra, dx.nd0, by omega, fun w hw => ?_, fun a H7 ha s7 hrow => ?_⟩
      · have := dx.num w hw
        exact ⟨this.1, this.2.1.mono (by decide), this.2.2.mono (by decide)⟩
      rw [← canon_low dx.nd (fun w hw => (dx.num w (List.mem_cons_of_mem _ hw)).1)] at hrow
      have e7 := s7 _ _ e6
      have ql : qs.length = ((cd.take i).map finC).length := Paired.length q6
      rw [List.length_map, List.length_take] at ql
      refine g_grow e7 (by rw [List.length_map]; omega) (fun H8 e8 ne8 => ?_)
      refine ⟨qs ++ [a], by rw [e8, List.map_append]; rfl, ?_, fun b o e => by rw [ne8 b (ne_of_none e hR)]; exact s7 _ _ (s6 _ _ e)⟩
      rw [List.take_add_one, hx, List.map_append]
      exact pair_app ((q6.same s7).offL e7 ne8) (hrow.offL e7 ne8)
    rintro H6 ⟨qs, e6, q6, s6⟩
    rw [List.length_map, rl, List.take_length] at q6
    have f6 := f4.same s6
    have e6F := s6 _ _ e4
    have hp6 := hp4.same s6
    have k6 : KeepBut p H H6 := ksame k4 s6
    have nRp : R ≠ p := hp4.neqD hR
    have nRF : R ≠ F := fun z => by rw [z, e4] at hR; cases hR
    have hRH : H R = none := by
      cases e : H R with
      | none => rfl
      | some o => rw [k4 R o nRp e] at hR; cases hR
    have ok6 : ∀ x ∈ cd.map finC, ROk 250 x.1 x.2 := fun x hx => by
      obtain ⟨y, hy, rfl⟩ := List.mem_map.mp hx
      exact finC_ok (dr2 y hy)
    have l6 : (cd.map finC).length = 4 := by rw [List.length_map, l2]
    generalize cd.map finC = cs0 at *
    clear f4 r4 d4 e4 hp4 k4 s6 e5 s5
    repeat walk_at "rd"
    refine ⟨p, 21, rfl, hp6, by decide, by decide, fun N H7 N0 N1 hp7 k7 => ?_⟩
    have r7 := q6.keep k7 hp6
    have f7 := f6.keep k7 hp6
    have e7R := k7 R _ nRp e6
    have e7F := k7 F _ nFp e6F
    have k07 : KeepBut p H H7 := fun b o hb e => k7 b o hb (k6 b o hb e)
    clear q6 f6 e6 e6F k6 hp6 k7
    repeat walk_at "rd"
    refine ⟨by omega, by omega, ?_⟩
    refine u_range (fun i σ H' => ∃ x2 x4 x5 x6 rs fs, ∃ cs : List CW, σ = [some (V.ref p), some (V.ref R), x2, some (V.ref F), x4, x5, x6, none, none, none, none, none] ∧ H' R = some (.lst (rs.map V.ref)) ∧ H' F = some (.lst (fs.map V.ref)) ∧ RowsAt H' rs cs ∧ FrmsAt K H' fs cs ∧ cs ≠ [] ∧ cs.length ≤ 4 + i ∧ (∀ x ∈ cs, ROk 250 x.1 x.2) ∧ PotAt H' p ∧ KeepBut p H H')
      ⟨_, _, _, _, qs, fs, cs0, rfl, e7R, e7F, r7, f7, (fun z => by rw [z] at l6; cases l6), by omega, ok6, hp7, k07⟩ ?_ ?_
    · rintro i σ H8 hi ⟨x2, x4, x5, x6, rs, fs, cs, rfl, eR, eF, rr, ff, ne, len, ok, hp8, k8⟩
      have hi21 : i < 21 := by omega
      repeat walk_at "rd"
      refine ⟨p, R, F, rs, fs, cs, rfl, hp8, eR, eF, nRp, nFp, rr, ff, ne, by omega, ok, fun t d a c ws H9 et hrow hfrm hok hp9 k9 => ?_⟩
      have eR9 := k9 R _ nRp eR
      have eF9 := k9 F _ nFp eF
      refine r_gtup (.inl (.inl et)) (by rfl) ?_
      repeat walk_at "rd"
      refine ⟨a, d, c, ws, rfl, hfrm, hrow, hok, fun H10 s10 => ?_⟩
      repeat walk_at "rd"
      obtain ⟨kvs, hd, hpk⟩ := hrow.same s10
      have fw := hok.few
      have kl := hpk.length
      rw [List.length_cons] at kl
      refine r_lockE hd trivial (fun od H11 e11 ne11 => ?_)
      have up : ∀ {b o}, H10 b = some o → b ≠ d → H11 b = some o := fun {b o} e hb => by rw [ne11 b hb]; exact e
      repeat walk_at "rd"
      refine r_vals ?_
      repeat walk_at "rd"
      refine ⟨d, od, kvs, rfl, e11, u_lcVt (fun D H12 hD s12 e12 _ => ⟨fun i H' => H' D = some (.lst ((((row0 c ws).take i).map mxI).map V.int)) ∧ H' d = some (.frz od (.dK kvs)) ∧ ∀ b, b ≠ d → ∀ o, H10 b = some o → H' b = some o,
        ⟨e12, s12 _ _ e11, fun b hb o eb => s12 _ _ (up eb hb)⟩, (fun i H' _ z => z.2.1), ?_, ?_⟩)⟩
      · rintro j key v H13 hj ⟨e13, f13, k13⟩
        obtain ⟨y, q, ey, rfl, rfl, hq⟩ := hpk.get2 j key v hj
        have hjl : j < (row0 c ws).length := (List.getElem?_eq_some_iff.mp ey).1
        rw [List.length_cons] at hjl
        have g13 : H13 q = some (.tup [.int y.2.1, .int y.2.2]) := k13 q (fun z => by unfold TupAt at hq; rw [z, hd] at hq; cases hq) _ hq
        have nDd : D ≠ d := fun z => by rw [z, f13] at e13; cases e13
        repeat walk_at "rd"
        refine ⟨rfl, ?_⟩
        refine r_tY ?_
        rw [if_pos rfl]
        repeat walk_at "rd"
        refine g_grow e13 (by rw [List.length_map, List.length_map, List.length_take, List.length_cons]; omega) (fun H14 e14 ne14 => ?_)
        refine ⟨?_, by rw [ne14 d nDd.symm]; exact f13, fun b hb o eb => ?_⟩
        · rw [e14, List.take_add_one, ey, List.map_append, List.map_append]
          rfl
        · rw [ne14 b (fun z => by
            rw [z] at eb
            have := up eb nDd
            rw [hD] at this
            cases this)]
          exact k13 b hb o eb
      · rintro H13 ⟨e13, f13, k13⟩
        refine ⟨f13, ?_⟩
        have nDd : D ≠ d := fun z => by rw [z, f13] at e13; cases e13
        have sH : Same H10 (upd H13 d (.dK kvs)) := same_back hd k13
        rw [kl, show (row0 c ws).take (ws.length + 1) = row0 c ws from List.take_of_length_le (by simp)] at e13
        have e14 : upd H13 d (.dK kvs) D = some (.lst (((row0 c ws).map mxI).map V.int)) := by rw [upd_ne nDd]; exact e13
        generalize upd H13 d (.dK kvs) = H14 at *
        have s9 := s10.trans sH
        repeat walk_at "rd"
        refine ⟨D, _, rfl, .inl (.inl e14), by rw [List.length_map, List.length_cons]; omega, fun m hm hmx => ?_⟩
        repeat walk_at "rd"
        have eR14 := s9 _ _ eR9
        have eF14 := s9 _ _ eF9
        have rr14 := (rr.keep k9 hp8).same s9
        have ff14 := (ff.keep k9 hp8).same s9
        have hp14 := hp9.same s9
        have k14 : KeepBut p H H14 := ksame (fun b o hb e => k9 b o hb (k8 b o hb e)) s9
        have rsl : rs.length = cs.length := Paired.length rr
        have fsl : fs.length = cs.length := Paired.length ff
        refine r_dec (fun lt => ?_) (fun lt => ?_)
        · have okn := rok_max hok (fun w hw => hmx _ (List.mem_map.mpr ⟨w, hw, rfl⟩)) lt
          repeat walk_at "rd"
          refine r_append eR14 (Nat.lt_of_lt_of_le (by rw [List.length_map]; omega : (rs.map V.ref).length < 100) (by decide)) ?_
          generalize e15' : upd H14 R (.lst (rs.map V.ref ++ [V.ref d])) = H15
          have ne15 : ∀ b, b ≠ R → H15 b = H14 b := fun b hb => by rw [← e15']; exact upd_ne hb
          have e15 : H15 R = some (.lst ((rs ++ [d]).map V.ref)) := by rw [← e15', upd_same, List.map_append]; rfl
          have eF15 : H15 F = some (.lst (fs.map V.ref)) := by rw [ne15 F nRF.symm]; exact eF14
          clear e15'
          repeat walk_at "rd"
          refine r_append eF15 (Nat.lt_of_lt_of_le (by rw [List.length_map]; omega : (fs.map V.ref).length < 100) (by decide)) ?_
          generalize e16' : upd H15 F (.lst (fs.map V.ref ++ [V.ref a])) = H16
          have ne16 : ∀ b, b ≠ F → H16 b = H15 b := fun b hb => by rw [← e16']; exact upd_ne hb
          have e16 : H16 F = some (.lst ((fs ++ [a]).map V.ref)) := by rw [← e16', upd_same, List.map_append]; rfl
          clear e16'
          refine ⟨_, _, _, _, rs ++ [d], fs ++ [a], cs ++ [(c, ws)], rfl, by rw [ne16 R nRF]; exact e15, e16, pair_app ((rr14.offL eR14 ne15).offL eF15 ne16) (((hrow.same s9).offL eR14 ne15).offL eF15 ne16),
            pair_app ((ff14.offL eR14 ne15).offL eF15 ne16) (((hfrm.same s9).offL eR14 ne15).offL eF15 ne16), by simp, by rw [List.length_append]; show cs.length + 1 ≤ _; omega, fun x hx => ?_, (hp14.offD nRp ne15).offD nFp ne16, kput (kput k14 hRH ne15) hFH ne16⟩
          rcases List.mem_append.mp hx with h | h
          · exact ok x h
          · rw [List.mem_singleton.mp h]; exact okn
        · repeat walk_at "rd"
          exact ⟨_, _, _, _, rs, fs, cs, rfl, eR14, eF14, rr14, ff14, ne, by omega, ok, hp14, k14⟩
    rintro σ H8 ⟨x2, x4, x5, x6, rs, fs, cs, rfl, eR, eF, rr, ff, ne, len, ok, hp8, k8⟩
    have len : cs.length ≤ 24 := by omega
    clear r7 f7 e7R e7F k07 hp7 N0 N1 l6 ok6
    repeat walk_at "rd"
    have rsl : rs.length = cs.length := Paired.length rr
    have fsl : fs.length = cs.length := Paired.length ff
    have cs1 : 0 < cs.length := List.length_pos_iff.mpr ne
    refine ⟨p, _, rfl, hp8, by rw [List.length_map]; omega, by rw [List.length_map]; omega, fun sp H9 sp0 sp1 hp9 k9 => ?_⟩
    rw [List.length_map] at sp1
    obtain ⟨s0, rfl⟩ := Int.eq_ofNat_of_zero_le sp0
    have eR9 := k9 R _ nRp eR
    have eF9 := k9 F _ nFp eF
    have rr9 := rr.keep k9 hp8
    have ff9 := ff.keep k9 hp8
    have k09 : KeepBut p H H9 := fun b o hb e => k9 b o hb (k8 b o hb e)
    clear eR eF rr ff k8 k9 hp8 sp0
    obtain ⟨y, hy⟩ : ∃ x, cs[s0]? = some x := ⟨_, List.getElem?_eq_getElem (by omega)⟩
    obtain ⟨fb, efb, hfb⟩ := pair_get ff9 hy
    obtain ⟨rb, erb, hrb⟩ := pair_get rr9 hy
    have oky := ok y (List.mem_of_getElem? hy)
    have iRb : atI (rs.map V.ref) ((s0 : Nat) : Int) = some (.ref rb) := atI_nat (by rw [List.getElem?_map, erb]; rfl)
    have iFb : atI (fs.map V.ref) ((s0 : Nat) : Int) = some (.ref fb) := atI_nat (by rw [List.getElem?_map, efb]; rfl)
    repeat walk_at "rd"
    refine u_lcL (xs := fs.map V.ref) (fun D1 H10 hD1 s10 e10 _ => ⟨fun i H' => H' D1 = some (.lst (((cs.take i).map fun x => bText (sameB x y)).map V.str)) ∧ Same H9 H', ⟨e10, s10⟩, (fun i H' _ z => .inl (.inl (z.2 _ _ eF9))), ?_, ?_⟩)
    · rintro i v H11 hi ⟨e11, s11⟩
      rw [List.getElem?_map] at hi
      obtain ⟨fi, efi, rfl⟩ := Option.map_eq_some_iff.mp hi
      have il := (List.getElem?_eq_some_iff.mp efi).1
      obtain ⟨x, hx⟩ : ∃ x, cs[i]? = some x := ⟨_, List.getElem?_eq_getElem (by omega)⟩
      obtain ⟨fi', efi', hfi⟩ := pair_get (ff9.same s11) hx
      obtain rfl : fi' = fi := Option.some.inj (efi'.symm.trans efi)
      have okx := ok x (List.mem_of_getElem? hx)
      have hfb11 := hfb.same s11
      repeat walk_at "rd"
      refine ⟨rfl, ?_⟩
      repeat walk_at "rd"
      refine r_ixL (.inl (.inl (s11 _ _ eF9))) iFb ?_
      refine r_opOwn hfi.ins (.inl ⟨fb, rfl, hfb11.ins⟩) ⟨fi', x.1, x.2, .ref fb, rfl, hfi, okx.cn.2, .inl ⟨fb, y.1, y.2, rfl, hfb11, ?_⟩⟩
      repeat walk_at "rd"
      refine g_grow e11 (by rw [List.length_map, List.length_map, List.length_take]; omega) (fun H12 e12 ne12 => ?_)
      refine ⟨?_, fun b o e => by rw [ne12 b (ne_of_none e hD1)]; exact s11 _ _ e⟩
      rw [e12, List.take_add_one, hx, List.map_append, List.map_append]
      rfl
    rintro H11 ⟨e11, s11⟩
    rw [List.length_map, fsl, List.take_length] at e11
    repeat walk_at "rd"
    refine ⟨R, rfl, ⟨_, .inl (.inl (s11 _ _ eR9))⟩, u_lcL (xs := rs.map V.ref) (fun D2 H12 hD2 s12 e12 _ => ⟨fun i H' => H' D2 = some (.lst (((cs.take i).map fun x => bText (sameB x y)).map V.str)) ∧ Same H11 H', ⟨e12, s12⟩, (fun i H' _ z => .inl (.inl (z.2 _ _ (s11 _ _ eR9)))), ?_, ?_⟩)⟩
    · rintro i v H13 hi ⟨e13, s13⟩
      rw [List.getElem?_map] at hi
      obtain ⟨fi, efi, rfl⟩ := Option.map_eq_some_iff.mp hi
      have il := (List.getElem?_eq_some_iff.mp efi).1
      have s113 := s11.trans s13
      obtain ⟨x, hx⟩ : ∃ x, cs[i]? = some x := ⟨_, List.getElem?_eq_getElem (by omega)⟩
      obtain ⟨fi', efi', hfi⟩ := pair_get (rr9.same s113) hx
      obtain rfl : fi' = fi := Option.some.inj (efi'.symm.trans efi)
      have okx := ok x (List.mem_of_getElem? hx)
      repeat walk_at "rd"
      refine ⟨rfl, ?_⟩
      repeat walk_at "rd"
      refine r_ixL (.inl (.inl (s113 _ _ eR9))) iRb ?_
      refine r_rowEq hfi (hrb.same s113) okx oky ?_
      repeat walk_at "rd"
      refine g_grow e13 (by rw [List.length_map, List.length_map, List.length_take]; omega) (fun H14 e14 ne14 => ?_)
      refine ⟨?_, fun b o e => by rw [ne14 b (ne_of_none e hD2)]; exact s13 _ _ e⟩
      rw [e14, List.take_add_one, hx, List.map_append, List.map_append]
      rfl
    rintro H13 ⟨e13, s13⟩
    rw [List.length_map, rsl, List.take_length] at e13
    refine r_strs6 (s13 _ _ e11) e13 (fun x hx => by
      obtain ⟨z, _, rfl⟩ := List.mem_map.mp hx
      exact asc_bText _) ?_
    have s913 := s11.trans s13
    have eR13 := s913 _ _ eR9
    have eF13 := s913 _ _ eF9
    have rr13 := rr9.same s913
    have ff13 := ff9.same s913
    have hp13 := hp9.same s913
    have k13 := ksame k09 s913
    clear e13 e11 s11 s13 s913 eR9 eF9 rr9 ff9 hp9 k09 hfb hrb iRb iFb
    obtain ⟨x0, hx0⟩ : ∃ x, cs[0]? = some x := ⟨_, List.getElem?_eq_getElem (by omega)⟩
    obtain ⟨r0, er0, hr0⟩ := pair_get rr13 hx0
    have ok0 := ok x0 (List.mem_of_getElem? hx0)
    repeat walk_at "rd"
    refine r_cmN ?_
    repeat walk_at "rd"
    refine ⟨rfl, ?_⟩
    repeat walk_at "rd"
    refine ⟨p, 9, rfl, hp13, by decide, by decide, fun d9 H14 d90 d91 hp14 k14 => ?_⟩
    have k014 : KeepBut p H H14 := fun b o hb e => k14 b o hb (k13 b o hb e)
    have eR14 := k14 R _ nRp eR13
    have eF14 := k14 F _ nFp eF13
    have rr14 := rr13.keep k14 hp13
    have ff14 := ff13.keep k14 hp13
    obtain ⟨kvs0, e0, p0⟩ := hr0.keep k14 hp13
    obtain ⟨q0, v0, h0⟩ : ∃ q, valV kvs0 (.inr "") = some (.ref q) ∧ TupAt H14 q x0.1.1 x0.1.2 := by
      rcases p0.get (z := "") with ⟨_, _, h⟩ | ⟨q, e1, h⟩
      · exact absurd List.mem_cons_self h
      · rw [wsGet_row0] at h
        exact ⟨q, e1, h⟩
    have g0 := h0
    unfold TupAt at g0
    have iR0 : atI (rs.map V.ref) ((0 : Nat) : Int) = some (.ref r0) := atI_nat (by rw [List.getElem?_map, er0]; rfl)
    clear k13 k14 eR13 eF13 rr13 ff13 hp13 hr0
    repeat walk_at "rd"
    refine r_ixL (.inl (.inl eR14)) iR0 ?_
    repeat walk_at "rd"
    refine ⟨r0, _, rfl, .inl ⟨kvs0, .inr "", .inl e0, rfl, v0.symm⟩, ?_⟩
    repeat walk_at "rd"
    refine r_ixL (.inl (.inl eR14)) iR0 ?_
    repeat walk_at "rd"
    refine ⟨r0, _, rfl, .inl ⟨kvs0, .inr "", .inl e0, rfl, v0.symm⟩, ?_⟩
    repeat walk_at "rd"
    refine use_make rfl ok0.c0.1 (ok0.c0.2.2.mono (by decide)) (fun na H15 s15 _ hna => ?_)
    rw [ok0.lw.2] at hna
    have hp15 := hp14.same s15
    repeat walk_at "rd"
    refine ⟨p, 5, rfl, hp15, by decide, by decide, fun d5 H16 d50 d51 hp16 k16 => ?_⟩
    have hna16 := hna.keep k16 hp15
    have k016 : KeepBut p H H16 := fun b o hb e => k16 b o hb (ksame k014 s15 b o hb e)
    have eR16 := k16 R _ nRp (s15 _ _ eR14)
    have eF16 := k16 F _ nFp (s15 _ _ eF14)
    have rr16 := (rr14.same s15).keep k16 hp15
    have ff16 := (ff14.same s15).keep k16 hp15
    clear hna k16 k014 eR14 eF14 rr14 ff14 hp14 hp15 e0 p0 h0 g0 s15
    repeat walk_at "rd"
    refine ⟨rfl, rfl, by show 2 ≤ 1000; decide, fun D hD => ?_⟩
    generalize e17' : upd H16 D _ = H17
    have s17 : Same H16 H17 := by rw [← e17']; exact same_upd hD
    have e17 : H17 D = some (.dK [(.inr "b", .ref na), (.inr "a2", .int (d5 - 2))]) := by rw [← e17', upd_same]; rfl
    clear e17'
    refine ⟨_, D, _, two2 x0.1 (d5 - 2, 1), (d9 - 4, 1), rfl, .inr ⟨rfl, rfl⟩, e17, .cons (.inl ⟨na, rfl, hna16.same s17⟩) (.cons (.inr ⟨rfl, rfl⟩) .nil), two2_sym, two2_nd, by show 2 < 64; decide, fun fo H18 s18 hfo => ?_⟩
    have s618 := s17.trans s18
    have eR18 := s618 _ _ eR16
    have eF18 := s618 _ _ eF16
    have rr18 := rr16.same s618
    have ff18 := ff16.same s618
    have k018 := ksame k016 s618
    clear hna16 k016 eR16 eF16 rr16 ff16 hp16 e17 s618 s17 s18
    repeat walk_at "rd"
    refine q_propF hfo ?_
    refine ⟨fo, _, _, rfl, hfo, fun ca hca => ?_⟩
    repeat walk_at "rd"
    refine r_disp (fun pd H19 hpd s19 e19 ne19 => ?_)
    refine r_pair ?_
    repeat walk_at "rd"
    have hfo19 := hfo.same s19
    refine q_methF hfo19 (by decide) (by decide) ?_
    repeat walk_at "rd"
    refine ⟨fo, _, _, "b", rfl, hfo19, by decide +kernel, by decide +kernel, fun wb H20 s20 hwb => ?_⟩
    refine r_pair ?_
    repeat walk_at "rd"
    have hfo20 := hfo19.same s20
    refine q_methF hfo20 (by decide) (by decide) ?_
    repeat walk_at "rd"
    refine ⟨fo, _, _, "a2", rfl, hfo20, by decide +kernel, by decide +kernel, fun wa H21 s21 hwa => ?_⟩
    have e21 := s21 _ _ (s20 _ _ e19)
    refine r_pair0 ⟨e21, [(.inr "b", .ref wb), (.inr "a2", .ref wa)], rfl, by show 2 ≤ 15; decide, fun H22 e22 ne22 => ?_⟩
    have e22 : H22 pd = some (.dK [(.inr "b", .ref wb), (.inr "a2", .ref wa)]) := e22
    have s22 : Same H18 H22 := same_put ((s19.trans s20).trans s21) hpd ne22
    have hwb22 : AmtAt K H22 wb _ _ := (hwb.same s21).offK e21 ne22
    have hwa22 : AmtAt K H22 wa _ _ := hwa.offK e21 ne22
    repeat walk_at "rd"
    refine use_mkC (c := (d9 - 4, 1)) (ws := two2 (wsGet (canon (two2 x0.1 (d5 - 2, 1))) "b") (wsGet (canon (two2 x0.1 (d5 - 2, 1))) "a2")) rfl (.inl ⟨ca, rfl, hca.same s22⟩) (win_of e22 (.cons hwb22 (.cons hwa22 .nil)) two2_sym two2_nd (by show 2 < 64; decide)) two2_nd (fun tw H23 s23 _ htw => ?_)
    rw [two2_get] at htw
    have s1823 := s22.trans s23
    have hfo23 := hfo.same s1823
    have eR23 := s1823 _ _ eR18
    have eF23 := s1823 _ _ eF18
    have rr23 := rr18.same s1823
    have ff23 := ff18.same s1823
    have k023 := ksame k018 s1823
    have ndc := canon_nd (two2_nd (x := x0.1) (y := (d5 - 2, 1)))
    generalize canon (two2 x0.1 (d5 - 2, 1)) = wc at *
    clear hfo hfo19 hfo20 hwb hwa hwb22 hwa22 s22 s23 s1823 eR18 eF18 rr18 ff18 k018 hca e19 e21 e22 s19 s20 s21
    repeat walk_at "rd"
    refine r_neOwn hfo23.ins (.inl ⟨tw, rfl, htw.ins⟩) ⟨fo, _, _, .ref tw, rfl, hfo23, ndc, .inl ⟨tw, _, _, rfl, htw, _, rfl, ?_⟩⟩
    rw [eqW_refl ndc, decide_eq_true ⟨rfl, rfl⟩]
    rw [show (!(true && true)) = false from rfl]
    repeat walk_at "rd"
    refine r_opOwn hfo23.ins (.inr ⟨"str", rfl, by decide⟩) ⟨fo, _, _, .str "b", rfl, hfo23, ndc, .inr ⟨.inr (.inl ⟨_, rfl⟩), ?_⟩⟩
    repeat walk_at "rd"
    clear hfo23 htw ndc
    refine use_mkC (c := (0, 1)) (ws := []) rfl (.inr ⟨rfl, rfl⟩) (.inl ⟨rfl, rfl⟩) List.nodup_nil (fun a1 H24 s24 _ hf1 => ?_)
    rw [canon_nil] at hf1
    repeat walk_at "rd"
    refine ⟨a1, rfl, hf1.ins, a1, (0, 1), [], rfl, hf1, wok_nil, ⟨by decide, by unfold Sz; decide +kernel, by unfold Sz; decide +kernel⟩, fun H25 s25 _ => ⟨_, rfl, ?_⟩⟩
    repeat walk_at "rd"
    refine r_smN ?_
    repeat walk_at "rd"
    refine ⟨rfl, ?_⟩
    repeat walk_at "rd"
    refine ⟨"a.b", rfl, by decide +kernel, by decide +kernel, fun a2 H26 s26 hf2 => ?_⟩
    repeat walk_at "rd"
    refine ⟨a2, rfl, hf2.ins, a2, (0, 1), _, rfl, hf2, wok_ab, ⟨by decide, by unfold Sz; decide +kernel, by unfold Sz; decide +kernel⟩, fun H27 s27 _ => ⟨_, rfl, ?_⟩⟩
    repeat walk_at "rd"
    refine use_mkC (c := (3, 1)) (ws := []) rfl (.inr ⟨rfl, rfl⟩) (.inl ⟨rfl, rfl⟩) List.nodup_nil (fun a3 H28 s28 _ hf3 => ?_)
    rw [canon_nil] at hf3
    repeat walk_at "rd"
    refine r_cmN ?_
    repeat walk_at "rd"
    refine ⟨rfl, ?_⟩
    repeat walk_at "rd"
    refine ⟨rfl, rfl, by decide, fun D3 hD3 => ?_⟩
    have s29 := same_upd (o := .dK (kwD [] [])) hD3
    refine ⟨.int 3, D3, [], [], (3, 1), rfl, .inr ⟨rfl, rfl⟩, upd_same, .nil, (by intro w hw; cases hw), List.nodup_nil, by decide, fun a4 H30 s30 hf4 => ?_⟩
    rw [canon_nil] at hf4
    have hf3' := (hf3.same s29).same s30
    refine r_opOwn hf3'.ins (.inl ⟨a4, rfl, hf4.ins⟩) ⟨a3, _, _, .ref a4, rfl, hf3', List.nodup_nil, .inl ⟨a4, _, _, rfl, hf4, ?_⟩⟩
    repeat walk_at "rd"
    refine use_mkC (c := (3, 1)) (ws := []) rfl (.inr ⟨rfl, rfl⟩) (.inl ⟨rfl, rfl⟩) List.nodup_nil (fun a5 H31 s31 _ hf5 => ?_)
    rw [canon_nil] at hf5
    repeat walk_at "rd"
    refine r_opOwn hf5.ins (.inr ⟨"int", rfl, by decide⟩) ⟨a5, _, _, .int 3, rfl, hf5, List.nodup_nil, .inr ⟨.inl ⟨_, rfl⟩, ?_⟩⟩
    repeat walk_at "rd"
    refine r_new (by show 4 ≤ 100000; decide) (fun L1 H32 hL1 s32 e32 _ => ?_)
    repeat walk_at "rd"
    refine r_new (by show 4 ≤ 100000; decide) (fun L2 H33 hL2 s33 e33 _ => ?_)
    have f32 : H33 L1 = some (.lst [.str "0", .str "a.b", .bl true, .bl false]) := by
      rw [s33 _ _ e32, show id (formT (0, 1) []) = "0" from formT_0, show id (formT (0, 1) [("a.b", 1, 1)]) = "a.b" from formT_ab]
      rfl
    have dp4 : ∀ {L}, H33 L = some (.lst [.str "0", .str "a.b", .bl true, .bl false]) → Dp K H33 (.ref L) fourD := fun h => .lst (.inl (.inl h)) (.cons (.str _) (.cons (.str _) (.cons (.bl _) (.cons (.bl _) .nil))))
    refine r_neDs (dp4 f32) (dp4 e33) four_shaped ?_
    have s2333 := (((((((((s24.trans s25).trans s26).trans s27).trans s28).trans s29).trans s30).trans s31).trans s32).trans s33)
    clear hf1 hf2 hf3 hf3' hf4 hf5 e32 e33 f32 dp4 s24 s25 s26 s27 s28 s29 s30 s31 s32 s33
    repeat walk_at "rd"
    refine use_mkC (c := (3, 1)) (ws := []) rfl (.inr ⟨rfl, rfl⟩) (.inl ⟨rfl, rfl⟩) List.nodup_nil (fun b1 H34 s34 _ hg1 => ?_)
    rw [canon_nil] at hg1
    repeat walk_at "rd"
    refine use_make rfl (by decide) (by unfold Sz; decide +kernel) (fun c1 H35 s35 _ hc1 => ?_)
    rw [low_one] at hc1
    have hg1' := hg1.same s35
    refine ⟨b1, c1, rfl, rfl, hg1'.ins, hc1.ins, ⟨b1, _, _, .ref c1, rfl, hg1', List.nodup_nil, .inr ⟨.inr (.inr ⟨c1, 3, 1, rfl, hc1⟩), ?_⟩⟩⟩
    repeat walk_at "rd"
    refine use_make rfl (by decide) (by unfold Sz; decide +kernel) (fun c2 H36 s36 _ hc2 => ?_)
    rw [low_one] at hc2
    repeat walk_at "rd"
    refine use_mkC (c := (3, 1)) (ws := []) rfl (.inr ⟨rfl, rfl⟩) (.inl ⟨rfl, rfl⟩) List.nodup_nil (fun b2 H37 s37 _ hg2 => ?_)
    rw [canon_nil] at hg2
    repeat walk_at "rd"
    have hc2' := hc2.same s37
    refine ⟨c2, b2, rfl, rfl, hc2'.ins, hg2.ins, ⟨c2, 3, 1, .inr ⟨.ref b2, rfl, .inr ⟨b2, rfl, hg2.ins⟩, hc2', ?_⟩⟩⟩
    repeat walk_at "rd"
    refine use_mkC (c := (3, 1)) (ws := []) rfl (.inr ⟨rfl, rfl⟩) (.inl ⟨rfl, rfl⟩) List.nodup_nil (fun b3 H38 s38 _ hg3 => ?_)
    rw [canon_nil] at hg3
    repeat walk_at "rd"
    refine use_make rfl (by decide) (by unfold Sz; decide +kernel) (fun c3 H39 s39 _ hc3 => ?_)
    rw [low_one] at hc3
    have hg3' := hg3.same s39
    refine ⟨b3, c3, rfl, rfl, hg3'.ins, hc3.ins, ⟨b3, _, _, .ref c3, rfl, hg3', List.nodup_nil, .inr ⟨.inr (.inr ⟨c3, 3, 1, rfl, hc3⟩), _, rfl, ?_⟩⟩⟩
    have s39a := ((((((s2333.trans s34).trans s35).trans s36).trans s37).trans s38).trans s39)
    have eR39 := s39a _ _ eR23
    have eF39 := s39a _ _ eF23
    have rr39 := rr23.same s39a
    have ff39 := ff23.same s39a
    have k039 := ksame k023 s39a
    clear hg1 hg1' hc1 hc2 hc2' hg2 hg3 hg3' hc3 s34 s35 s36 s37 s38 s39 s2333 s39a eR23 eF23 rr23 ff23 k023
    refine ⟨_, rfl, ?_⟩
    rw [show (!!false) = false from rfl]
    repeat walk_at "rd"
    refine ⟨_, _, _, _, rfl, .inl (.inl eF39), .inl (.inl eR39), u_lcZ (xs := fs.map V.ref) (ys := rs.map V.ref) (fun Dz H40 hDz s40 e40 _ => ⟨fun i H' => H' Dz = some (.lst ((List.replicate i true).map V.bl)) ∧ Same H39 H', ⟨e40, s40⟩, fun i H' _ z => ⟨.inl (.inl (z.2 _ _ eF39)), .inl (.inl (z.2 _ _ eR39))⟩, by rw [List.length_map, List.length_map]; omega, ?_, ?_⟩)⟩
    · rintro i v1 v2 T H41 H42 h1 h2 ⟨e41, s41⟩ hT sT eT _
      rw [List.getElem?_map] at h1 h2
      obtain ⟨fi, efi, rfl⟩ := Option.map_eq_some_iff.mp h1
      obtain ⟨ri, eri, rfl⟩ := Option.map_eq_some_iff.mp h2
      have il := (List.getElem?_eq_some_iff.mp efi).1
      have s42 := s41.trans sT
      obtain ⟨x, hx⟩ : ∃ x, cs[i]? = some x := ⟨_, List.getElem?_eq_getElem (by omega)⟩
      obtain ⟨fi', efi', hfi⟩ := pair_get (ff39.same s42) hx
      obtain rfl : fi' = fi := Option.some.inj (efi'.symm.trans efi)
      obtain ⟨ri', eri', hri⟩ := pair_get (rr39.same s42) hx
      obtain rfl : ri' = ri := Option.some.inj (eri'.symm.trans eri)
      have okx := ok x (List.mem_of_getElem? hx)
      refine r_gtup (.inl (.inl eT)) (by rfl) ?_
      repeat walk_at "rd"
      refine ⟨rfl, ?_⟩
      repeat walk_at "rd"
      refine ⟨fi', ri', x.1, x.2, rfl, hfi, hri, okx.mono (by decide), fun H43 s43 => ?_⟩
      refine g_grow (s43 _ _ (sT _ _ e41)) (by rw [List.length_map, List.length_replicate]; omega) (fun H44 e44 ne44 => ?_)
      refine ⟨by rw [e44, List.replicate_succ', List.map_append]; rfl, fun b o e => by rw [ne44 b (ne_of_none e hDz)]; exact s43 _ _ (s42 _ _ e)⟩
    rintro H41 ⟨e41, s41⟩
    repeat walk_at "rd"
    refine r_all (.inl (.inl e41)) ?_
    rw [show ∀ n, (List.replicate n true).all id = true from fun n => by simp]
    repeat walk_at "rd"
    exact k _ (ksame k039 s41)

end
def sp_law (K : PySem.W.Frag) : Sp := fun vs H Q _ => ∃ a, ∃ ns : List Int, vs = [.ref a] ∧ SqL K H a (ns.map V.int) ∧ ns.length ≤ 63 ∧ ∀ H', Q (.bl true) H'
theorem sql_same {K : PySem.W.Frag} {H H' : Hp} {a : Addr} {xs : List V} (h : SqL K H a xs) (s : Same H H') : SqL K H' a xs := by
  rcases h with (h | ⟨o, h⟩) | h
  · exact .inl (.inl (s _ _ h))
  · exact .inl (.inr ⟨o, s _ _ h⟩)
  · exact .inr h

section
variable {P : Program} {w : World} {K : PySem.W.Frag} {mg : Str → Option Value} {base : Heap}
theorem sc_law : FnScope ["_law_script", "_law_k"] ["_law_script"] (defScope s_law) := ⟨rfl, rfl, rfl, by decide +kernel, rfl, by decide +kernel, by decide +kernel⟩
theorem ok_law (T : Tx K mg) : FnG P w K mg base CX0 true 13 (He.ga K "law") T.fd_law ["_law_script"] (sp_law K) := by
  refine funG T.F_law sc_law (fun vs H Q E h => ?_) (fun cdv A outer s H vs Q E hr hg h => ?_)
  · obtain ⟨a, ns, e, _⟩ := h; rw [e]; rfl
  · obtain ⟨a, ns, rfl, hs, hn, k⟩ := h
    refine ⟨_, (pss_one (ps_ret (pe_callB (cr_all rfl) (by rfl) T.m_all (by decide +kernel) (pa_cons (pe_lc (own := [("_law_k", 1)]) (by rfl) sc_law.nd (pi_range1 (by rfl) T.m_range (pa_cons (pe_callB (call_max2 rfl) (by rfl) T.m_max (by decide +kernel) (pa_cons pe_int (pa_cons (pe_callB (call_min2 rfl) (by rfl) T.m_min (by decide +kernel) (pa_cons (pe_callB call_len_seq (by rfl) T.m_len (by decide +kernel) (pa_cons (pv 0) pa_nil)) (pa_cons pe_int pa_nil))) pa_nil))) pa_nil)) (blkOk_by (own := [("_law_k", 1)]) (N := ["_law_script", "_law_k"]) (sc := defScope s_law) (by decide +kernel)) (fun _ _ _ _ _ => (pg_name (i := 1) sc_law.nd rfl (by first | exact Or.inl rfl | exact Or.inr rfl))) (fun _ _ _ _ _ => pts_nil) (fun _ _ _ _ _ => (pg_call (ok_l_right T) (hr.mono (by decide)) hg (by rfl) T.g_l_right T.F_l_right.kp T.b_l_right .nil pass0 (pa_cons (pg_call (ok_l_pot T) (hr.mono (by decide)) hg (by rfl) T.g_l_pot T.F_l_pot.kp T.b_l_pot .nil pass0 (pa_cons (pv 0) (pa_cons (pv 1) pa_nil))) pa_nil)))) pa_nil)))), ?_⟩
    walk_at "st"
    repeat walk_at "rd"
    refine q_len hs ?_
    repeat walk_at "rd"
    rw [List.length_map]
    obtain ⟨m, em⟩ : ∃ m : Int, m = (if (if (8 : Int) < ns.length then 8 else (ns.length : Int)) > 1 then (if (8 : Int) < ns.length then 8 else (ns.length : Int)) else 1) := ⟨_, rfl⟩
    rw [← em]
    have m8 : m ≤ 8 ∧ 0 ≤ m := by
      rw [em]
      split <;> split <;> omega
    clear em
    refine ⟨by omega, by omega, u_lcR (fun D H0 hD sD eD nD => ?_)⟩
    refine ⟨fun i H' => H' D = some (.lst ((List.replicate i true).map V.bl)) ∧ Same H H', ⟨eD, sD⟩, ?_, ?_⟩
    · rintro i H2 hi ⟨e2, s2⟩
      repeat walk_at "rd"
      refine ⟨rfl, ?_⟩
      repeat walk_at "rd"
      refine use_pot (sql_same hs s2) (by omega) (by omega) (fun p H3 hp s3 pp => ?_)
      repeat walk_at "rd"
      refine ⟨p, rfl, pp, fun H4 k4 => ?_⟩
      have nDp : D ≠ p := ne_of_none e2 hp
      have e4 := k4 D _ nDp (s3 _ _ e2)
      refine g_grow e4 (by rw [List.length_map, List.length_replicate]; omega) (fun H5 e5 ne5 => ⟨by rw [e5, List.replicate_succ', List.map_append]; rfl, fun b o eb => ?_⟩)
      rw [ne5 b (ne_of_none eb hD)]
      exact k4 b o (ne_of_none (s2 b o eb) hp) (s3 b o (s2 b o eb))
    · rintro H2 ⟨e2, s2⟩
      repeat walk_at "rd"
      refine r_all (.inl (.inl e2)) ?_
      rw [show (List.replicate m.toNat true).all id = true from by rw [List.all_replicate]; simp]
      exact k _

end
end K13
open PySem PySem.W PySem.Calls PyProof.Rows
set_option maxRecDepth 100000 in
set_option maxHeartbeats 0 in
theorem PySem.Challenge.cw_leastlog_k13_forms_reckoned_holds : PySem.Challenge.rw_leastlog_k13_forms_reckoned.Holds := by
  w_on; o_law
  refine LL.head_imp (r := OpenLaw.row PySem.Challenge.rw_leastlog_k13_forms_reckoned) (q := view (OpenLaw.row PySem.Challenge.rw_leastlog_k13_forms_reckoned).prog [0, 48]) (H := K13.hk) (ob := K13.ob) (N := 9000) (M := 9000) (loose := K13.loose)
    (d := HandSHeadRun.topDef (OpenLaw.row PySem.Challenge.rw_leastlog_k13_forms_reckoned).prog 48) (kwd := []) K13.ob_eq (by decide +kernel) K13.run
    (by kernel_rfl) (by kernel_rfl) (by kernel_rfl) (by rfl) (by first | assumption | decide +kernel) (by decide +kernel) ⟨rfl, rfl, rfl, rfl, rfl, by decide +kernel⟩ ?hw ?hc
  case hw => w_witness2
  case hc =>
    refine LL.walk_g (g := true) (l := PySem.Challenge.rw_leastlog_k13_forms_reckoned) (n := 63) (k := 13) (x := "_law_script") (CX := L2.CX0) rfl (by decide) (by kernel_rfl) ⟨rfl, by decide, by decide⟩ ?F (fun _ _ _ _ z => z)
    intro w mg fa h Y XX G hmg0
    obtain ⟨K, KX, c, x⟩ := Y
    have hmg : mg ("law" : PySem.Str) = some (.ref fa) := by
      have e : (HandSHeadRun.topDef (OpenLaw.row PySem.Challenge.rw_leastlog_k13_forms_reckoned).prog 48).name = ("law" : PySem.Str) := by kernel_rfl
      rw [← e]
      exact hmg0
    obtain ⟨T, _⟩ := K13.tx_of KX G XX c x
    have e := hmg.symm.trans T.g_law
    cases e
    exact ⟨K, T.fd_law, K13.sp_law K, KX, fun s v => L2.FunD.bindsA (ps := ["_law_script"]) T.F_law (fun _ _ _ _ _ _ us hl => match us, hl with | [_], _ => rfl) s [v] rfl, fun H a ns hl _ hS => ⟨a, ns, rfl, hS, hl, fun _ => rfl⟩, fun base _ _ => K13.ok_law T⟩
