import PyProof.Rows.All
import Wide.All
import OpenK.AllK
import Wide.FinOn
import HandS.ForMost
import HandS.Flow
import HandS.Property
import HandS.OwnEq
import HandS.Wide
import HandS.WideMore
import HandS.Gcd
import HandS.FStr
import HandS.Zip
import HandS.IsInst
import HandS.Defaults
import HandS.HeadHook2
import HandS.HeadEnd
import HandS.HeadNt
import HandS.Head2
import HandS.RaiseMore
import HandS.Lambda
import HandS.EndTab
import HandS.ExcInit
import HandS.ExcField
import HandS.ExcIs
import HandS.TryMany
import HandS.ExcOwn
import HandS.HeadWalk
import KE.KNestM
import HandS.Text
import HandS.StrSplit
import HandS.Replace
import HandS.Walk
import PySem.Challenge.RW_leastlog_k75_sealed_rows
set_option Elab.async false
set_option linter.all false
set_option maxRecDepth 100000
set_option maxHeartbeats 8000000
/-! LL: rules of our own over the hand layer: defs that know that no repr is under way (FnG), operators, ==, repr, str of an own class. -/
namespace LL
open PySem PySem.Spec PyProof.Rows L2

/-- nothing guarded is under way (where g asks for it) -/
def Clr (g : Bool) (A : Around) : Prop := g = true → A.guards = some []
theorem clr_no {A : Around} : Clr false A := fun h => nomatch h
theorem Clr.to {g' g : Bool} {A : Around} (c : Clr g A) (h : g' = true → g = true) : Clr g' A := fun e => c (h e)
theorem clr_deeper {g : Bool} {A : Around} {env : Env} (c : Clr g A) : Clr g (A.deeper env) := fun e => by
  have h := c e
  first | exact h | (simpa [Around.deeper, Around.under, pushGuards] using h)
theorem clr_in1 {g : Bool} {A : Around} (c : Clr g A) : Clr g A.in1 := fun e => by
  have h := c e
  first | exact h | (simpa [Around.in1] using h)
theorem clr_make {g : Bool} {A : Around} {C : Addr} {us : List Value} {kw : List (Str × Value)} (c : Clr g A) : Clr g (A.under (.builtin "type.__call__" ⟨.ref C :: us, kw⟩)) := fun e => by
  have h := c e
  have z : (Code.builtin "type.__call__" ⟨.ref C :: us, kw⟩).isGuard = false := by show guardIds.contains "type.__call__" = false; decide +kernel
  simp only [Around.under, Code.guards, z, Bool.false_eq_true, if_false, pushGuards]
  exact h

/-- a def's promise, for calls where (if g) nothing guarded is under way -/
structure FnG (P : Program) (w : World) (K : PySem.W.Frag) (mg : Str → Option Value) (base : Heap) (CX : CXT) (g : Bool) (k : Nat) (f : Addr) (fd : FuncData) (ps : List Str) (sp : Sp) : Prop where
  len : ∀ vs H Q E, sp vs H Q E → vs.length = ps.length
  run : ∀ (A : Around) (outer : List Env) (s : Shared) (H : Hp) (args : Args) (us : List Value) (vs : List V) (Q : VK) (E : XK), Room k A → Clr g A → Env0 P w K mg base A outer s H →
    BindsTo s fd args (ps.zip us) → Vals vs us → sp vs H Q E → codeAny (model P w) A (.call (.ref f) args) (CR CX outer P w H s Q E) s
section
variable {P : Program} {w : World} {K : PySem.W.Frag} {mg : Str → Option Value} {base : Heap} {CX : CXT} {g : Bool} {j k : Nat} {f : Addr} {fd : FuncData} {ps : List Str} {sp sp' : Sp}
theorem FnG.mono (F : FnG P w K mg base CX g j f fd ps sp) (h : j ≤ k) : FnG P w K mg base CX g k f fd ps sp :=
  ⟨F.len, fun A outer s H args us vs Q E hr => F.run A outer s H args us vs Q E (hr.mono h)⟩
theorem FnG.imp (F : FnG P w K mg base CX g k f fd ps sp) (h : ∀ vs H Q E, sp' vs H Q E → sp vs H Q E) : FnG P w K mg base CX g k f fd ps sp' :=
  ⟨fun vs H Q E q => F.len vs H Q E (h _ _ _ _ q), fun A outer s H args us vs Q E hr hg he hb hv q => F.run A outer s H args us vs Q E hr hg he hb hv (h _ _ _ _ q)⟩
theorem ok_g (F : FnOk P w K mg base CX k f fd ps sp) : FnG P w K mg base CX g k f fd ps sp :=
  ⟨F.len, fun A outer s H args us vs Q E hr _ => F.run A outer s H args us vs Q E hr⟩
theorem g_ok (F : FnG P w K mg base CX false k f fd ps sp) : FnOk P w K mg base CX k f fd ps sp :=
  ⟨F.len, fun A outer s H args us vs Q E hr => F.run A outer s H args us vs Q E hr clr_no⟩
/-- two promises that are both kept -/
theorem FnG.both (F : FnG P w K mg base CX g k f fd ps sp) (F' : FnG P w K mg base CX g k f fd ps sp') : FnG P w K mg base CX g k f fd ps (fun vs H Q E => sp vs H Q E ∨ sp' vs H Q E) :=
  ⟨fun vs H Q E q => q.elim (F.len vs H Q E) (F'.len vs H Q E), fun A outer s H args us vs Q E hr hg he hb hv q => q.elim (F.run A outer s H args us vs Q E hr hg he hb hv) (F'.run A outer s H args us vs Q E hr hg he hb hv)⟩

/-- a def by its body -/
theorem fnG_of {name qual : Str} {params : Arguments} {body : List Stmt} {scope : Scope} {dV kV doc pm cdv ct oc : Value} {an od : Option Addr} {osl : Array (Option Value)} {N : List Str}
    (lk : K.lookup f = some ⟨oc, od, .func (PySem.W.fnOf name qual params body scope dV kV doc pm an cdv ct), osl⟩) (hcd : PySem.W.codeIn K cdv qual = true) (S : FnScope N ps scope)
    (len : ∀ vs H Q E, sp vs H Q E → vs.length = ps.length)
    (hb : ∀ (A : Around) (outer : List Env) (s : Shared) (H : Hp) (vs : List V) (Q : VK) (E : XK), Room k (A.deeper (envOfC qual scope s.heap.objs.size f cdv)) → Clr g (A.deeper (envOfC qual scope s.heap.objs.size f cdv)) → sp vs H Q E →
      ∃ t, PSs (cxOf CX P w K mg base N qual scope f cdv A outer s H E) body t ∧ t { nx := fun _ H' => Q .non H', rt := Q } (start N vs) H) :
    FnG P w K mg base CX g (k + 1) f (PySem.W.fnOf name qual params body scope dV kV doc pm an cdv ct) ps sp := by
  constructor
  · exact len
  intro A outer s H args us vs Q E room clr e0 bnd rel want
  have L := len _ _ _ _ want
  have kin : K.In s.heap := e0.mod.kin.keeps (fun b o e => (e0.bs b o e).1)
  have nolim : s.heap.NoLimit := e0.mod.nolimit.keeps (fun b o e => (e0.bs b o e).1)
  have kinds : ∀ y ∈ ps.zip us, scope.names.lookup y.1 = some .local ∨ (scope.names.lookup y.1 = some .cell ∧ ((cellsFrom (s.heap.objs.size + 1) scope.names []).lookup y.1).isSome = true) := by
    rintro ⟨n, v⟩ hy
    have hp := S.par n (List.of_mem_zip hy).1
    exact hp.imp id fun q => ⟨q, PySem.W.cellsFrom_some _ _ _ (.inl q)⟩
  refine codeAny_call_function room.depth (kin _ _ lk) rfl S.co S.gen rfl (PySem.W.codeRec_of kin hcd) (bnd _ _ _ _ (wpAny_newFunctionEnv_cells S.kind kinds fun env he s1 x => ?_))
  cases he
  obtain ⟨t, ht, hq⟩ := hb A outer s H vs Q E (room.deeper _) (clr_deeper clr) want
  refine ⟨nolim.keeps x.toInCall.keep, codeAny_func (wpAny_mono (ht.run [] s1 (start N vs) H _ (inv_start S room.hd e0 L rel x) hq) (fun fl s' hs => ?_) (fun e s' z => z))⟩
  cases fl with
  | ret u => obtain ⟨v, σ', H', J, rv, q⟩ := hs; exact ⟨v, H', J.os, J.bare, J.base, J.hok, rv, q⟩
  | next => obtain ⟨σ', H', J, q⟩ := hs; exact ⟨.non, H', J.os, J.bare, J.base, J.hok, rfl, q⟩
  | brk => obtain ⟨_, _, _, q⟩ := hs; exact q.elim
  | cont => obtain ⟨_, _, _, q⟩ := hs; exact q.elim
end
section
variable {P : Program} {w : World} {K : PySem.W.Frag} {mg : Str → Option Value} {base : Heap} {g : Bool} {k : Nat} {f : Addr} {fd : FuncData} {ps N : List Str} {sp : Sp} {x qual : Str} {st : Stmt} {args : Arguments} {body : List Stmt} {sc : Scope} {dvs : List V} {kws : List (Str × V)}
/-- a def of the text, from which no exception goes -/
theorem funG (F : FunD K x qual args body sc dvs kws f fd) (S : FnScope N ps sc) (len : ∀ vs H Q E, sp vs H Q E → vs.length = ps.length)
    (hb : ∀ (cdv : Value) (A : Around) (outer : List Env) (s : Shared) (H : Hp) (vs : List V) (Q : VK) (E : XK), Room k (A.deeper (envOfC qual sc s.heap.objs.size f cdv)) → Clr g (A.deeper (envOfC qual sc s.heap.objs.size f cdv)) → sp vs H Q E →
      ∃ t, PSs (cxOf CX0 P w K mg base N qual sc f cdv A outer s H E).nox body t ∧ t { nx := fun _ H' => Q .non H', rt := Q } (start N vs) H) : FnG P w K mg base CX0 g (k + 1) f fd ps sp := by
  obtain ⟨oc, od, dV, kV, doc, pm, an, cdv, ct, osl, e, lk, hcd, _⟩ := F.ex
  subst e
  refine fnG_of lk hcd S len ?_
  intro A outer s H vs Q E hr hg q
  obtain ⟨t, h1, h2⟩ := hb cdv A outer s H vs Q E hr hg q
  exact ⟨t, h1.nox, h2⟩
end

section
variable {X : Cx} {CX : CXT} {g : Bool} {k : Nat} {f C : Addr} {fd : FuncData} {ps : List Str} {sp : Sp} {dvs : List V} {ds : List Value} {E : XK} {x m : Str} {p pos apos : Pos} {e o : Expr} {es : List Expr} {ta : TE} {t : TA}
/-- the callee runs -/
theorem run_g {pins : List (Addr × Obj)} {σ : L2.St} {H : Hp} {s : Shared} {Q : VK} {us : List Value} {vs : List V} {A : Around} {E' : Value → Shared → Prop} (F : FnG X.prog X.w X.K X.mg X.base CX g k f fd ps sp) (hr : Room k A) (hg : Clr g A) (hA : A.frames = X.A.frames) (hb : Binds X.K fd ps ds)
    (hd : Vals dvs ds) (hx : Passes CX (X.wish E') E) (I : Inv X pins σ H s) (r : Vals vs us) (h : sp (vs ++ dvs) H Q E) : wpAny (model X.prog X.w) A (call (.ref f) us) (EP X pins σ Q) E' s := by
  have r2 : Vals (vs ++ dvs) (us ++ ds) := r.append hd
  have e0 := I.env0
  have e1 : Env0 X.prog X.w X.K X.mg X.base A X.stack s H := ⟨hA.trans e0.frames, e0.mod, e0.bs, e0.bsz, e0.funs, e0.frf, e0.hok, e0.bare⟩
  have hl : (us ++ ds).length = ps.length := r2.length.symm.trans (F.len _ _ _ _ h)
  refine wpAny_call (codeAny_mono (F.run A X.stack s H ⟨us, []⟩ _ _ Q E hr hg e1 (hb s us I.kIn hl) r2 h) (fun res s' q => ?_))
  match res, q with
  | .error er, q => exact hx pins σ H s er s' (I.wish _) q
  | .ok (.ret u), q => exact I.after q
  | .ok .next, q => exact q.elim
  | .ok .brk, q => exact q.elim
  | .ok .cont, q => exact q.elim
theorem run_gX {pins : List (Addr × Obj)} {σ : L2.St} {H : Hp} {s : Shared} {Q : VK} {us : List Value} {vs : List V} (F : FnG X.prog X.w X.K X.mg X.base CX g k f fd ps sp) (hr : Room k X.A) (hg : Clr g X.A) (hb : Binds X.K fd ps ds)
    (hd : Vals dvs ds) (hx : Passes CX X E) (I : Inv X pins σ H s) (r : Vals vs us) (h : sp (vs ++ dvs) H Q E) : wpAny (model X.prog X.w) X.A (call (.ref f) us) (EP X pins σ Q) X.xe s :=
  run_g (E' := X.xe) F hr hg rfl hb hd hx I r h

/-- f(a, ..) -/
theorem pg_call (F : FnG X.prog X.w X.K X.mg X.base CX g k f fd ps sp) (hr : Room k X.A) (hg : Clr g X.A) (hgl : Gl X x) (hm : X.mg x = some (.ref f)) (hk : PySem.W.keepIn X.K (.ref f) = true) (hb : Binds X.K fd ps ds) (hd : Vals dvs ds)
    (hx : Passes CX X E) (ha : PA X (e :: es) t)
    (hdb : (x == ("__debug__" : Str)) = false := by decide) (he : starEach (e :: es) X.env = (false, eval e X.env) :: starEach es X.env := by rfl)
    (hpl : (backTo pos (starEach es X.env)).any (·.1) = false := by rfl) : PE X (.Call (.Name x p) (e :: es) [] pos) (tCall sp dvs E t) := by
  constructor
  intro pins s σ H Q I h
  refine wpAny_Call_Name_kw (ld_glob I hgl hm ?_ hdb)
  refine PySem.W.callWith_K (h₀ := X.base) I.ok.mod.kin hk (thn (ha.run pos pins s σ H _ I h) ?_) he hpl
  rintro us s1 ⟨vs, H1, I1, r, q⟩
  exact ⟨I1.kIn, run_gX F hr hg hb hd hx I1 r q⟩
/-- f() -/
theorem pg_call0 (F : FnG X.prog X.w X.K X.mg X.base CX g k f fd ps sp) (hr : Room k X.A) (hg : Clr g X.A) (hgl : Gl X x) (hm : X.mg x = some (.ref f)) (hk : PySem.W.keepIn X.K (.ref f) = true) (hb : Binds X.K fd ps ds) (hd : Vals dvs ds)
    (hx : Passes CX X E) (hdb : (x == ("__debug__" : Str)) = false := by decide) : PE X (.Call (.Name x p) [] [] pos) (tCall sp dvs E tNil) := by
  constructor
  intro pins s σ H Q I h
  exact wpAny_Call_Name_kw (ld_glob I hgl hm (PySem.W.callWith_K0 I.kIn hk (run_gX (us := []) F hr hg hb hd hx I .nil h)) hdb)
/-- o.m(a, ..) -/
theorem pg_meth {pl : Sem Bool} (he : PE X o ta) (c : Cls X.K C) (hm : Meth X.K C m f) (F : FnG X.prog X.w X.K X.mg X.base CX g k f fd ps sp) (hr : Room k X.A) (hg : Clr g X.A) (hb : Binds X.K fd ps ds) (hd : Vals dvs ds)
    (hx : Passes CX X E) (ha : PA X (e :: es) t)
    (hst : starEach (e :: es) X.env = (false, eval e X.env) :: starEach es X.env := by rfl) (hpl : (backTo pos (starEach es X.env)).any (·.1) = false := by rfl)
    (ht : eval (.Call (.Attribute o m apos) (e :: es) [] pos) X.env = (do let ov ← eval o X.env; standAt apos.atName; let (f, first) ← holding [ov] (getMethod ov m pl); callWith pos f first (backTo pos (starEach (e :: es) X.env)) (backToKw pos (keywordEach [] X.env))) := by rfl) :
    PE X (.Call (.Attribute o m apos) (e :: es) [] pos) (tMeth C m sp dvs E ta t) := by
  constructor
  intro pins s σ H Q I h
  refine PySem.W.methodCall_KW (pl := pl) (thn (he.run pins s σ H _ I h) ?_) ht
  rintro u s1 ⟨y, H1, I1, ry, a, dx, fs, ey, ea, l, q⟩
  subst ey
  obtain rfl : u = Value.ref a := ry
  refine getmeth_ok I1 ea c hm l (PySem.W.callWith_K (first := [.ref a]) (h₀ := X.base) I.ok.mod.kin hm.kp (thn (ha.run pos pins s1 σ H1 _ I1 q) ?_) hst hpl)
  rintro us s2 ⟨vs, H2, I2, r, q2⟩
  exact ⟨I2.kIn, run_gX (us := .ref a :: us) (vs := .ref a :: vs) F hr hg hb hd hx I2 (.cons rfl r) q2⟩
/-- a property of an own class: the getter's promise -/
theorem pg_prop {f : Str} {pp ge : Addr} (he : PE X e ta) (c : Cls X.K C) (hp : PropOf X.K C f pp ge) (F : FnG X.prog X.w X.K X.mg X.base CX g k ge fd ps sp) (hr : Room (k + 1) X.A) (hg : Clr g X.A) (hb : Binds X.K fd ps ds) (hd : Vals dvs ds)
    (hx : Passes CX X.nox E) (hab : attributeBase e f X.env (eval e X.env) = eval e X.env) : PE X (.Attribute e f pos) (tProp C sp dvs E ta) := by
  constructor
  intro pins s σ H Q I h
  refine attr_of hab (thn (he.run pins s σ H _ I h) ?_)
  rintro u s1 ⟨y, H1, I1, ry, a, dx, fs, ey, ea, q⟩
  subst ey
  obtain rfl : u = Value.ref a := ry
  obtain ⟨mA, O, _⟩ := ins_get I1.hok ea
  obtain ⟨od, J, _⟩ := O.look
  obtain ⟨rest, hrec⟩ := hp.rec_
  have hc : (PySem.W.clsIn X.K C).isSome = true := by
    obtain ⟨cd, z, _⟩ := PySem.W.any_some c.hd
    rw [z]; rfl
  refine PySem.W.get_bind I1.kIn J (PySem.W.plainGet_of (c.get f)).1 (PySem.W.findObj_data hc hp.at_ hp.get hp.tak) (PySem.W.plainGet_of (c.get f)).2 (wpAny_call (PySem.W.prop_get (s := { s1 with toks := s1.toks + 1 }) I1.kIn hrec ?_))
  have I2 := I1.tok (s1.toks + 1)
  have e0 := I2.env0.in1
  have r2 : Vals (V.ref a :: dvs) (Value.ref a :: ds) := .cons rfl hd
  have hl : ([Value.ref a] ++ ds).length = ps.length := r2.length.symm.trans (F.len _ _ _ _ q)
  refine codeAny_mono (F.run X.A.in1 X.stack { s1 with toks := s1.toks + 1 } H1 ⟨[.ref a], []⟩ _ _ Q E hr.in1 (clr_in1 hg) e0 (hb _ [.ref a] I2.kIn hl) r2 q) (fun res s' q2 => ?_)
  match res, q2 with
  | .error er, q2 => exact False.elim (hx pins σ H1 { s1 with toks := s1.toks + 1 } er s' (I2.wish _) q2)
  | .ok (.ret u), q2 =>
    obtain ⟨v, H', I3, rv, q3⟩ := I2.after q2
    show wpAny _ _ (handedOut u) _ _ _
    rw [PySem.W.handedOut_of (handed_of rv)]
    exact wpAny_pure ⟨v, H', I3, rv, q3⟩
  | .ok .next, q2 => exact q2.elim
  | .ok .brk, q2 => exact q2.elim
  | .ok .cont, q2 => exact q2.elim
end
end LL
/-! LL2: operators, ==, !=, repr, str of an own class. -/
namespace LL
open PySem PySem.Spec PyProof.Rows L2

theorem not_ni {z : V} {v : Value} {Q : Value → Shared → Prop} {s' : Shared} (r : RelV z v) (h : Q v s') : PySem.W.CmpBack Q v s' := by
  cases z <;> first | (cases r; exact h) | (obtain ⟨t, e⟩ := r; cases e; exact h)
/-- an instance that H tracks -/
def InsAt (C : Addr) (H : Hp) (a : Addr) : Prop := ∃ dx fs, H a = some (.ins C dx fs)
/-- a value of a built-in type without an address -/
def plT : V → Option String
  | .non => some "NoneType"
  | .bl _ => some "bool"
  | .int _ => some "int"
  | .str _ => some "str"
  | _ => none
theorem plT_of {y : V} {u : Value} {T : String} (r : RelV y u) (h : plT y = some T) : typeOf u = pure (.type T) := by
  cases y with
  | non => cases r; cases h; rfl
  | bl b => cases r; cases h; rfl
  | int i => obtain ⟨t, e⟩ := r; cases e; cases h; rfl
  | str x => obtain ⟨t, e⟩ := r; cases e; cases h; rfl
  | byt x => cases h
  | flt x => cases h
  | ref x => cases h
  | ty x => cases h

section
variable {X : Cx} {pins : List (Addr × Obj)} {σ : L2.St} {H : Hp} {s : Shared} {C a dx : Addr} {fs : List (Str × V)}
theorem inst_of (I : Inv X pins σ H s) (ea : H a = some (.ins C dx fs)) : ∃ ox od, PySem.W.InstAt s.heap a ox C (some od) := by
  obtain ⟨mA, O, _⟩ := ins_get I.hok ea
  obtain ⟨od, J, _⟩ := O.look
  exact ⟨_, od, J⟩
end

/-- C has the operator's method nm as the def at f, and no other way leads past it for values of the types Ts at the right -/
structure OpOwn (K : PySem.W.Frag) (C : Addr) (nm : String) (f : Addr) (Ts : List String) : Prop where
  first : PySem.W.selfFirst K C = true
  at_ : PySem.W.findIn K (.ref C) (PySem.dunder nm) = some (some (.ref f))
  fn : PySem.W.isFn K (.ref f) = true
  refl : PySem.W.findIn K (.ref C) (dunderR nm) = some none
  ts : ∀ T ∈ Ts, (∃ fo, PySem.W.findIn K (.type T) (PySem.dunder nm) = some fo) ∧ (∃ ro, PySem.W.findIn K (.type T) (dunderR nm) = some ro) ∧ PySem.W.subIn K (.type T) (.ref C) = some false
/-- x op y by the method: y an instance of the same class, or a value of one of the types -/
def rOpOwn (C : Addr) (Ts : List String) (sp : Sp) (E : XK) : R2 := fun x y H Q => ∃ a, x = .ref a ∧ InsAt C H a ∧ ((∃ b, y = .ref b ∧ InsAt C H b) ∨ ∃ T, plT y = some T ∧ T ∈ Ts) ∧ sp [x, y] H Q E

section
variable {X : Cx} {CX : CXT} {g : Bool} {k : Nat} {f C : Addr} {fd : FuncData} {ps : List Str} {sp : Sp} {E : XK} {Ts : List String}
theorem op_own {op : Operator} (O : OpOwn X.K C op.info.2 f Ts) (F : FnG X.prog X.w X.K X.mg X.base CX g k f fd ps sp) (hr : Room k X.A) (hg : Clr g X.A) (hb : Binds X.K fd ps []) (hx : Passes CX X E) : OpR X (binaryOp op) (rOpOwn C Ts sp E) := by
  intro pins s σ H x y v u Q I rx ry h
  obtain ⟨a, rfl, ⟨dx, fs, ea⟩, hy, q⟩ := h
  obtain rfl : v = Value.ref a := rx
  obtain ⟨ox, od, J⟩ := inst_of I ea
  obtain ⟨m, Fr0⟩ := I.fr
  have body : wpAny (model X.prog X.w) X.A (call (.ref f) [.ref a, u]) (PySem.W.CmpBack (EP X pins σ Q)) X.xe s :=
    wpAny_mono (run_gX (us := [.ref a, u]) (vs := [.ref a, y]) (dvs := []) F hr hg hb .nil hx I (.cons rfl (.cons ry .nil)) q) (fun w s' z => by
      obtain ⟨z1, H', I', r', q'⟩ := z
      exact not_ni r' ⟨z1, H', I', r', q'⟩) fun _ _ z => z
  rcases hy with ⟨b, rfl, dy, gs, eb⟩ | ⟨T, hT, hm⟩
  · obtain rfl : u = Value.ref b := ry
    obtain ⟨oy, od2, J2⟩ := inst_of I eb
    exact PySem.W.binop_K Fr0 I.ok.mod.kin J J2.type O.first O.at_ O.fn body
  · obtain ⟨⟨fo, h1⟩, ⟨ro, h2⟩, h3⟩ := O.ts T hm
    exact PySem.W.ksp_binT Fr0 I.ok.mod.kin J (plT_of ry hT) O.first O.at_ O.fn O.refl (.inl rfl) h1 h2 h3 body

/-- -x -/
structure UnOwn (K : PySem.W.Frag) (C : Addr) (nm : Str) (f : Addr) : Prop where
  at_ : PySem.W.findIn K (.ref C) nm = some (some (.ref f))
  fn : PySem.W.isFn K (.ref f) = true
def rUnOwn (C : Addr) (sp : Sp) (E : XK) : V → Hp → VK → Prop := fun x H Q => ∃ a, x = .ref a ∧ InsAt C H a ∧ sp [x] H Q E
theorem un_own (O : UnOwn X.K C "__neg__" f) (F : FnG X.prog X.w X.K X.mg X.base CX g k f fd ps sp) (hr : Room k X.A) (hg : Clr g X.A) (hb : Binds X.K fd ps []) (hx : Passes CX X E) : UnR X (unaryOp .USub) (rUnOwn C sp E) := by
  intro pins s σ H x v Q I rx h
  obtain ⟨a, rfl, ⟨dx, fs, ea⟩, q⟩ := h
  obtain rfl : v = Value.ref a := rx
  obtain ⟨ox, od, J⟩ := inst_of I ea
  obtain ⟨m, Fr0⟩ := I.fr
  exact PySem.W.ksp_neg Fr0 I.ok.mod.kin J O.at_ O.fn (run_gX (us := [.ref a]) (vs := [.ref a]) (dvs := []) F hr hg hb .nil hx I (.cons rfl .nil) q)

/-- x == y by the own __eq__ -/
structure EqOwn (K : PySem.W.Frag) (C f : Addr) (Ts : List String) : Prop where
  at_ : PySem.W.findIn K (.ref C) "__eq__" = some (some (.ref f))
  fn : PySem.W.isFn K (.ref f) = true
  ts : ∀ T ∈ Ts, PySem.W.notFirst K C (.type T) = true
theorem op_eqOwn (O : EqOwn X.K C f Ts) (F : FnG X.prog X.w X.K X.mg X.base CX g k f fd ps sp) (hr : Room k X.A) (hg : Clr g X.A) (hb : Binds X.K fd ps []) (hx : Passes CX X E) : OpR X (compareOp .Eq) (rOpOwn C Ts sp E) := by
  intro pins s σ H x y v u Q I rx ry h
  obtain ⟨a, rfl, ⟨dx, fs, ea⟩, hy, q⟩ := h
  obtain rfl : v = Value.ref a := rx
  obtain ⟨ox, od, J⟩ := inst_of I ea
  obtain ⟨m, Fr0⟩ := I.fr
  have body : wpAny (model X.prog X.w) X.A (call (.ref f) [.ref a, u]) (PySem.W.CmpBack (EP X pins σ Q)) X.xe s :=
    wpAny_mono (run_gX (us := [.ref a, u]) (vs := [.ref a, y]) (dvs := []) F hr hg hb .nil hx I (.cons rfl (.cons ry .nil)) q) (fun w s' z => by
      obtain ⟨z1, H', I', r', q'⟩ := z
      exact not_ni r' ⟨z1, H', I', r', q'⟩) fun _ _ z => z
  show wpAny (model X.prog X.w) X.A (richCompare .Eq (.ref a) u) (EP X pins σ Q) X.xe s
  rcases hy with ⟨b, rfl, dy, gs, eb⟩ | ⟨T, hT, hm⟩
  · obtain rfl : u = Value.ref b := ry
    obtain ⟨oy, od2, J2⟩ := inst_of I eb
    exact PySem.W.cmp_K hr.units0 Fr0 I.ok.mod.kin J J2.type (by show (Value.ref C == Value.ref C || _) = true; rw [beq_self_eq_true, Bool.true_or]) O.at_ O.fn body
  · exact PySem.W.cmp_K hr.units0 Fr0 I.ok.mod.kin J (PySem.W.Looks.of_pure (plT_of ry hT)) (O.ts T hm) O.at_ O.fn body
end

/-! ### != where the class has an own __eq__ and object's __ne__ -/
section
open PySem.W
variable {prog : Program} {w : World} {M : Model} {A : Around} {E : Value → Shared → Prop} {s : Shared} {K : Frag} {x C f : Addr} {ox : Obj} {od : Option Obj} {b tb : Value}
theorem bound_b {name : Str} {id : String} {args : List Value} {Q : Option Value → Shared → Prop} (X : K.In s.heap) (I : PySem.W.InstAt s.heap x ox C od) (hs : findIn K (.ref C) name = some (some (.builtin id)))
    (hb : ∀ self, bindSpecial (.builtin id) self = pure (.builtin id, [self])) (h : wpAny M A (call (.builtin id) (.ref x :: args)) (fun v => Q (some v)) E s) : wpAny M A (callSpecialIfBound? (.ref x) name args) Q E s := by
  have fin : wpAny M A (call (.builtin id) ([.ref x] ++ args) >>= fun v => pure (some v)) Q E s := wpAny_bind (wpAny_mono h (fun _ _ z => wpAny_pure z) fun _ _ z => z)
  unfold callSpecialIfBound? bindSpecialIfBound?
  refine wpAny_holding (wpAny_bind (wpAny_bind (wpAny_bind (I.type.here ((looks_findIn X hs).here ?_)))))
  refine wpAny_bind (wpAny_askSetting (wpAny_ite ?_))
  split
  · exact wpAny_bind ((Looks.of_pure (hb _)).here (wpAny_pure (by exact fin)))
  · exact wpAny_tryCatch (wpAny_bind ((Looks.of_pure (hb _)).here (wpAny_pure (by exact fin))))
open Builtin in
theorem obj_ne {Q : Value → Shared → Prop} (hu : A.in1.units < cLine) (X : K.In s.heap) (I : PySem.W.InstAt s.heap x ox C od) (hm : mroIn K C (.type "object") = some true) (hs : findIn K (.ref C) "__eq__" = some (some (.ref f)))
    (hf : isFn K (.ref f) = true) (h : wpAny (model prog w) A.in1 (call (.ref f) [.ref x, b]) (fun v s' => ∃ c, v = .bool c ∧ Q (.bool (!c)) s') E s) : wpAny (model prog w) A (call (.builtin "object.__ne__") [.ref x, b]) Q E s := by
  refine wpAny_call (codeAny_call_builtin PySem.F.cmp_object.ne.plain PySem.F.cmpEntry_ne (check_slot (i := "object.__ne__") (owner := "object") (n := "__ne__") (by decide +kernel) (by decide +kernel) (I.type.andThen (looks_mroIn X hm)) (PySem.F.cmpArgs_ne _ _) ?_))
  unfold Builtin.«object.__ne__»
  refine wpAny_bind (m := slotArgs "__ne__" 1 _) (wpAny_pure ?_)
  refine wpAny_bind (m := cRoomFor _ _) (wpAny_cRoomFor hu ?_)
  refine wpAny_bind (m := callSpecialIfBound? (.ref x) (Str.ofString "__eq__") _) (ifBound_K X I hs hf (wpAny_mono h (fun r s' hq => ?_) fun _ _ y => y))
  obtain ⟨c, rfl, q⟩ := hq
  exact wpAny_bind (wpAny_truthy_bool (wpAny_pure q))
theorem ne_K {Q : Value → Shared → Prop} (hu : A.in1.units < cLine) (X : K.In s.heap) (I : PySem.W.InstAt s.heap x ox C od) (hb : Looks (model prog w) s.heap (typeOf b) tb) (hn : notFirst K C tb = true)
    (hm : mroIn K C (.type "object") = some true) (h2 : findIn K (.ref C) "__ne__" = some (some (.builtin "object.__ne__"))) (hs : findIn K (.ref C) "__eq__" = some (some (.ref f))) (hf : isFn K (.ref f) = true)
    (h : wpAny (model prog w) A.in1 (call (.ref f) [.ref x, b]) (fun v s' => ∃ c, v = .bool c ∧ Q (.bool (!c)) s') E s) : wpAny (model prog w) A (richCompare .NotEq (.ref x) b) Q E s := by
  have one : wpAny (model prog w) A (tryCompare (.ref x) (cmpInfo .NotEq).2.1 b) (fun r s' => ∃ v, r = some v ∧ Q v s') E s := by
    unfold tryCompare
    refine wpAny_bind (bound_b X I h2 PySem.F.cmp_object.ne.bind (obj_ne hu X I hm hs hf (wpAny_mono h (fun v s' hv => ?_) fun _ _ e => e)))
    obtain ⟨c, rfl, q⟩ := hv
    exact ⟨c, rfl, wpAny_pure ⟨_, rfl, q⟩⟩
  have hu0 : A.units < cLine := Nat.lt_of_le_of_lt (Nat.le_succ _) hu
  unfold richCompare
  simp only [oneThing_ref]
  refine wpAny_holding (wpAny_bind (wpAny_cRoomFor hu0 ?_))
  refine wpAny_bind (I.type.here (wpAny_bind (hb.here ?_)))
  split
  · rename_i q
    have e : subIn K tb (.ref C) = some false := by
      rcases Bool.or_eq_true_iff.mp hn with e | e
      · rw [beq_iff_eq.mp e] at q; simp at q
      · exact beq_iff_eq.mp e
    refine wpAny_bind ((looks_subIn X e).here ?_)
    simp only [Bool.false_eq_true, if_false]
    refine wpAny_bind (wpAny_mono one (fun r s' z => ?_) fun _ _ e => e)
    obtain ⟨v, rfl, hq⟩ := z
    exact wpAny_pure hq
  · refine wpAny_bind (wpAny_pure ?_)
    simp only [Bool.false_eq_true, if_false]
    refine wpAny_bind (wpAny_mono one (fun r s' z => ?_) fun _ _ e => e)
    obtain ⟨v, rfl, hq⟩ := z
    exact wpAny_pure hq
end
structure NeOwn (K : PySem.W.Frag) (C f : Addr) (Ts : List String) : Prop where
  eq : EqOwn K C f Ts
  obj : PySem.W.mroIn K C (.type "object") = some true
  ne : PySem.W.findIn K (.ref C) "__ne__" = some (some (.builtin "object.__ne__"))
/-- x != y: what == would hand back, a bool, the other way round -/
def rNeOwn (C : Addr) (Ts : List String) (sp : Sp) (E : XK) : R2 := fun x y H Q => ∃ a, x = .ref a ∧ InsAt C H a ∧ ((∃ b, y = .ref b ∧ InsAt C H b) ∨ ∃ T, plT y = some T ∧ T ∈ Ts) ∧ sp [x, y] H (fun v H' => ∃ c, v = .bl c ∧ Q (.bl (!c)) H') E
section
variable {X : Cx} {CX : CXT} {g : Bool} {k : Nat} {f C : Addr} {fd : FuncData} {ps : List Str} {sp : Sp} {E : XK} {Ts : List String}
theorem op_neOwn (O : NeOwn X.K C f Ts) (F : FnG X.prog X.w X.K X.mg X.base CX g k f fd ps sp) (hr : Room (k + 1) X.A) (hg : Clr g X.A) (hb : Binds X.K fd ps []) (hx : Passes CX X E) : OpR X (compareOp .NotEq) (rNeOwn C Ts sp E) := by
  intro pins s σ H x y v u Q I rx ry h
  obtain ⟨a, rfl, ⟨dx, fs, ea⟩, hy, q⟩ := h
  obtain rfl : v = Value.ref a := rx
  obtain ⟨ox, od, J⟩ := inst_of I ea
  have body : wpAny (model X.prog X.w) X.A.in1 (call (.ref f) [.ref a, u]) (fun v s' => ∃ c, v = .bool c ∧ EP X pins σ Q (.bool (!c)) s') X.xe s :=
    wpAny_mono (run_g (us := [.ref a, u]) (vs := [.ref a, y]) (dvs := []) (E' := X.xe) F hr.in1 (clr_in1 hg) rfl hb .nil hx I (.cons rfl (.cons ry .nil)) q) (fun w s' z => by
      obtain ⟨z1, H', I', r', c, rfl, q'⟩ := z
      cases r'
      exact ⟨c, rfl, .bl (!c), H', I', rfl, q'⟩) fun _ _ z => z
  have hu : X.A.in1.units < cLine := Nat.lt_of_le_of_lt (by show X.A.units + 1 ≤ X.A.units + 64; omega) hr.units
  show wpAny (model X.prog X.w) X.A (richCompare .NotEq (.ref a) u) (EP X pins σ Q) X.xe s
  rcases hy with ⟨b, rfl, dy, gs, eb⟩ | ⟨T, hT, hm⟩
  · obtain rfl : u = Value.ref b := ry
    obtain ⟨oy, od2, J2⟩ := inst_of I eb
    exact ne_K hu I.kIn J J2.type (by show (Value.ref C == Value.ref C || _) = true; rw [beq_self_eq_true, Bool.true_or]) O.obj O.ne O.eq.at_ O.eq.fn body
  · exact ne_K hu I.kIn J (PySem.W.Looks.of_pure (plT_of ry hT)) (O.eq.ts T hm) O.obj O.ne O.eq.at_ O.eq.fn body
/-- str(x), repr(x) of an own class -/
def rStrOwn (C : Addr) (sp : Sp) (E : XK) : List V → Hp → VK → Prop := fun xs H Q => ∃ a, xs = [.ref a] ∧ InsAt C H a ∧ sp [.ref a] H (fun v H' => ∃ z, v = .str z ∧ Q v H') E
theorem str_back {X : Cx} {pins : List (Addr × Obj)} {σ : L2.St} {Q : VK} {v : Value} {s' : Shared} (h : EP X pins σ (fun v H' => ∃ z, v = .str z ∧ Q v H') v s') : PySem.W.StrBack (EP X pins σ Q) v s' := by
  obtain ⟨z1, H', I', r', z, rfl, q⟩ := h
  obtain ⟨t, rfl⟩ := r'
  exact ⟨.str z, H', I', ⟨t, rfl⟩, q⟩
theorem cr_strOwn (O : UnOwn X.K C "__str__" f) (F : FnG X.prog X.w X.K X.mg X.base CX g k f fd ps sp) (hr : Room (k + 2) X.A) (hg : Clr g X.A) (hb : Binds X.K fd ps []) (hx : Passes CX X E) : CallR X (.type "str") (rStrOwn C sp E) := by
  intro pins s σ H xs us Q I r h
  obtain ⟨a, rfl, ⟨dx, fs, ea⟩, q⟩ := h
  obtain ⟨u, rfl, ru⟩ := vals1 r
  obtain rfl : u = Value.ref a := ru
  obtain ⟨ox, od, J⟩ := inst_of I ea
  have hr1 : Room k X.A.in1.in1 := hr.in1.in1
  refine PySem.W.kso_call hr1.units0 I.kIn J O.at_ O.fn ?_
  exact wpAny_mono (run_g (us := [.ref a]) (vs := [.ref a]) (dvs := []) (E' := X.xe) F hr1 (clr_in1 (clr_in1 hg)) rfl hb .nil hx I (.cons rfl .nil) q) (fun _ _ z => str_back z) fun _ _ z => z
theorem cr_reprOwn (O : UnOwn X.K C "__repr__" f) (F : FnG X.prog X.w X.K X.mg X.base CX g k f fd ps sp) (hr : Room (k + 1) X.A) (hg : Clr g X.A) (hb : Binds X.K fd ps []) (hx : Passes CX X E) : CallR X (.builtin "repr") (rStrOwn C sp E) := by
  intro pins s σ H xs us Q I r h
  obtain ⟨a, rfl, ⟨dx, fs, ea⟩, q⟩ := h
  obtain ⟨u, rfl, ru⟩ := vals1 r
  obtain rfl : u = Value.ref a := ru
  obtain ⟨ox, od, J⟩ := inst_of I ea
  obtain ⟨m, Fr0⟩ := I.fr
  have hr1 : Room k X.A.in1 := hr.in1
  refine PySem.W.repr_K hr1.units0 Fr0 I.ok.mod.kin J O.at_ O.fn ?_
  exact wpAny_mono (run_g (us := [.ref a]) (vs := [.ref a]) (dvs := []) (E' := X.xe) F hr1 (clr_in1 hg) rfl hb .nil hx I (.cons rfl .nil) q) (fun _ _ z => str_back z) fun _ _ z => z
end
end LL
/-! LL3: making, repr of data, // of any sign; readings step by step. -/
namespace LL
open PySem PySem.Spec PyProof.Rows L2

section
variable {X : Cx} {CX : CXT} {g : Bool} {k : Nat} {f C : Addr} {fd : FuncData} {ps : List Str} {sp : Sp} {dvs : List V} {ds : List Value} {E : XK} {x : Str} {p pos : Pos} {e : Expr} {es : List Expr} {t : TA}
theorem run_mk {pins : List (Addr × Obj)} {σ : L2.St} {H : Hp} {s : Shared} {Q : VK} {us : List Value} {vs : List V} (M : Mk X.K C f) (F : FnG X.prog X.w X.K X.mg X.base CX g k f fd ps sp) (hr : Room (k + 1) X.A) (hg : Clr g X.A) (hb : Binds X.K fd ps ds) (hd : Vals dvs ds)
    (hx : Passes CX X E) (I : Inv X pins σ H s) (r : Vals vs us)
    (h : ∀ y dy, H y = none → H dy = none → dy ≠ y → sp (.ref y :: (vs ++ dvs)) (upd (upd H dy (.own y)) y (.ins C dy [])) (fun v H2 => v = .non ∧ Q (.ref y) H2) E) :
    wpAny (model X.prog X.w) X.A (call (.ref C) us) (EP X pins σ Q) X.xe s := by
  have want := h (s.heap.objs.size + 1) s.heap.objs.size (I.hok.fresh (Nat.le_succ _)) (I.hok.fresh (Nat.le_refl _)) (Nat.ne_of_lt (Nat.lt_succ_self _))
  have J := Inv.made (C := C) I
  have rr : Vals (V.ref (s.heap.objs.size + 1) :: (vs ++ dvs)) (Value.ref (s.heap.objs.size + 1) :: (us ++ ds)) := .cons rfl (r.append hd)
  have hl : (Value.ref (s.heap.objs.size + 1) :: us ++ ds).length = ps.length := rr.length.symm.trans (F.len _ _ _ _ want)
  have room := hr.make C us []
  refine wpAny_call (make_map (f := f) I.kIn M.makes M.init (beq_iff_eq.mp M.fn) (codeAny_mono (F.run _ X.stack _ _ ⟨Value.ref (s.heap.objs.size + 1) :: us, []⟩ _ _ _ E room (clr_make hg) (J.env0.make C us [])
    (hb _ (Value.ref (s.heap.objs.size + 1) :: us) J.kIn hl) rr want) (fun res s' q => ?_)))
  match res, q with
  | .error er, q => exact hx pins σ _ _ er s' J q
  | .ok (.ret u), q =>
    obtain ⟨v, H', J', rv, ev, q3⟩ := J.after q
    subst ev
    exact ⟨rv, ⟨V.ref (s.heap.objs.size + 1), H', J', rfl, q3⟩⟩
  | .ok .next, q => exact q.elim
  | .ok .brk, q => exact q.elim
  | .ok .cont, q => exact q.elim
/-- C(a, ..) -/
theorem pg_make (M : Mk X.K C f) (F : FnG X.prog X.w X.K X.mg X.base CX g k f fd ps sp) (hr : Room (k + 1) X.A) (hg : Clr g X.A) (hgl : Gl X x) (hm : X.mg x = some (.ref C)) (hb : Binds X.K fd ps ds) (hd : Vals dvs ds) (hx : Passes CX X E)
    (ha : PA X (e :: es) t)
    (hdb : (x == ("__debug__" : Str)) = false := by decide) (he : starEach (e :: es) X.env = (false, eval e X.env) :: starEach es X.env := by rfl)
    (hpl : (backTo pos (starEach es X.env)).any (·.1) = false := by rfl) : PE X (.Call (.Name x p) (e :: es) [] pos) (tMake C sp dvs E t) := by
  constructor
  intro pins s σ H Q I h
  refine wpAny_Call_Name_kw (ld_glob I hgl hm ?_ hdb)
  refine PySem.W.callWith_K (h₀ := X.base) I.ok.mod.kin M.kp (thn (ha.run pos pins s σ H _ I h) ?_) he hpl
  rintro us s1 ⟨vs, H1, I1, r, q⟩
  exact ⟨I1.kIn, run_mk M F hr hg hb hd hx I1 r q⟩
theorem pg_make0 (M : Mk X.K C f) (F : FnG X.prog X.w X.K X.mg X.base CX g k f fd ps sp) (hr : Room (k + 1) X.A) (hg : Clr g X.A) (hgl : Gl X x) (hm : X.mg x = some (.ref C)) (hb : Binds X.K fd ps ds) (hd : Vals dvs ds) (hx : Passes CX X E)
    (hdb : (x == ("__debug__" : Str)) = false := by decide) : PE X (.Call (.Name x p) [] [] pos) (tMake C sp dvs E tNil) := by
  constructor
  intro pins s σ H Q I h
  exact wpAny_Call_Name_kw (ld_glob I hgl hm (PySem.W.callWith_K0 I.kIn M.kp (run_mk (us := []) M F hr hg hb hd hx I .nil h)) hdb)
end

/-! ### repr of data, of a bool -/
def rReprD (K : PySem.W.Frag) : List V → Hp → VK → Prop := fun xs H Q => ∃ a d, xs = [.ref a] ∧ Dp K H (.ref a) d ∧ d.showable = true ∧ d.hasDict = false ∧ d.depth ≤ 16 ∧ d.shown.length ≤ sizeLine ∧ Q (.str d.shown) H
def bText (b : Bool) : Str := if b then "True" else "False"
def rReprB : List V → Hp → VK → Prop := fun xs H Q => ∃ b, xs = [.bl b] ∧ Q (.str (bText b)) H
section
variable {X : Cx}
theorem cr_reprD (hg : Clr true X.A) (hu : X.A.units + 64 < cLine) : CallR X (.builtin "repr") (rReprD X.K) := by
  intro pins s σ H xs us Q I r h
  obtain ⟨a, d, rfl, hd, h1, h2, h3, h4, q⟩ := h
  obtain ⟨u, rfl, ru⟩ := vals1 r
  obtain rfl : u = Value.ref a := ru
  obtain ⟨as, rd⟩ := Dp.reads I d _ _ hd (show RelV (.ref a) (Value.ref a) from rfl)
  refine repr_of_reads' rd h1 (PyData.noDict_hsm h2) (hg rfl) (by omega) (fun _ _ z => z) (fun h' v tk hk => ?_) h4
  exact ⟨.str _, H, I.kept hk, ⟨_, rfl⟩, q⟩
theorem cr_reprB : CallR X (.builtin "repr") rReprB := by
  intro pins s σ H xs us Q I r h
  obtain ⟨b, rfl, q⟩ := h
  obtain ⟨u, rfl, ru⟩ := vals1 r
  obtain rfl : u = Value.bool b := ru
  refine PySem.P.repr_of_bool ⟨.str (bText b), H, I.tok _, ⟨s.toks, ?_⟩, q⟩
  unfold bText
  cases b <;> rfl
end

/-! ### // by any divisor but 0 below 2 ^ 9000 -/
def CDivS (_ j : Int) : Prop := j ≠ 0 ∧ j.natAbs.log2 < 9000
section
variable {X : Cx}
theorem op_fdivS : OpR X (binaryOp .FloorDiv) (rI CDivS fun i j => .int (i.fdiv j)) := opI fun _ _ _ _ _ _ _ hc q => floordiv_int hc.1 q (.inl (PyProof.noPylong_of_log2 hc.2))
end
end LL
/-! LR: readings, one construct at a time: each row takes a goal «reading .. σ H Q» to what is left. -/
namespace LL
open PySem PySem.Spec PyProof.Rows L2

section
variable {σ : L2.St} {H H1 : Hp} {Q : VK} {QA : List V → Hp → Prop} {QB : Bool → Hp → Prop} {QS : L2.St → Hp → Prop} {x y v : V} {ta tb tc : TE} {t u : TT} {tr : TA} {s1 s2 : TS} {i j : Nat} {n : L2.St → Hp → Prop} {r : VK} {b c : L2.St → Hp → Prop} {r2 : R2} {K : PySem.W.Frag} {g : TG} {gs : TGs} {a p : Addr} {xs : List V} {m k : Int} {z : Str} {bb : Bool} {E : XK} {sp : Sp}
/-! names, constants, operators -/
theorem r_var (h : σ[i]? = some (some v)) (q : Q v H) : tVar i σ H Q := ⟨v, h, q⟩
theorem r_c (q : Q v H) : tC v σ H Q := q
theorem r_op (q : ta σ H fun x H1 => tb σ H1 fun y H2 => r2 x y H2 Q) : tOp r2 ta tb σ H Q := q
theorem r_un {ru : V → Hp → VK → Prop} (q : ta σ H fun x H1 => ru x H1 Q) : tUn ru ta σ H Q := q
theorem r_I0 {f : Int → Int → V} (q : Q (f m k) H) : rI0 f (.int m) (.int k) H Q := ⟨m, k, rfl, rfl, q⟩
theorem r_I {C : Int → Int → Prop} {f : Int → Int → V} (h : C m k) (q : Q (f m k) H) : rI C f (.int m) (.int k) H Q := ⟨m, k, rfl, rfl, h, q⟩
theorem r_U {f : Int → V} (q : Q (f m) H) : rU f (.int m) H Q := ⟨m, rfl, q⟩
theorem r_eqI (q : Q (.bl (decide (m = k))) H) : rEq (.int m) (.int k) H Q := ⟨rfl, by
  have e : decide (V.int m = V.int k) = decide (m = k) := by rw [dec_int]; exact Bool.beq_eq_decide_eq ..
  show Q (.bl (decide (V.int m = V.int k))) H
  rw [e]; exact q⟩
theorem r_neI (q : Q (.bl (!decide (m = k))) H) : rNe (.int m) (.int k) H Q := ⟨rfl, by
  have e : decide (V.int m = V.int k) = decide (m = k) := by rw [dec_int]; exact Bool.beq_eq_decide_eq ..
  show Q (.bl (!decide (V.int m = V.int k))) H
  rw [e]; exact q⟩
theorem r_eqS {z z' : Str} (q : Q (.bl (decide (z = z'))) H) : rEq (.str z) (.str z') H Q := ⟨rfl, by
  have e : decide (V.str z = V.str z') = decide (z = z') := by rw [dec_str]; exact Bool.beq_eq_decide_eq ..
  show Q (.bl (decide (V.str z = V.str z'))) H
  rw [e]; exact q⟩
theorem r_neS {z z' : Str} (q : Q (.bl (!decide (z = z'))) H) : rNe (.str z) (.str z') H Q := ⟨rfl, by
  have e : decide (V.str z = V.str z') = decide (z = z') := by rw [dec_str]; exact Bool.beq_eq_decide_eq ..
  show Q (.bl (!decide (V.str z = V.str z'))) H
  rw [e]; exact q⟩
/-! tests -/
theorem r_test (q : ta σ H fun x H' => ∃ k, x = .bl k ∧ QB k H') : tTest ta σ H QB := q
theorem r_tB (q : ta σ H fun x H' => ∃ k, x = .bl k ∧ QB k H') : tB ta σ H QB := q
theorem r_bl (q : QB bb H) : ∃ k, V.bl bb = .bl k ∧ QB k H := ⟨bb, rfl, q⟩
theorem r_and (q : t σ H fun c H1 => if c = true then u σ H1 QB else QB false H1) : tAnd t u σ H QB := q
theorem r_or (q : t σ H fun c H1 => if c = true then QB true H1 else u σ H1 QB) : tOr t u σ H QB := q
theorem r_not (q : t σ H fun c H1 => QB (!c) H1) : tNot t σ H QB := q
theorem r_andV (q : ta σ H fun x H1 => ∃ c, x = .bl c ∧ if c = true then tb σ H1 Q else Q (.bl false) H1) : tAndV ta tb σ H Q := q
theorem r_orV (q : ta σ H fun x H1 => ∃ c, x = .bl c ∧ if c = true then Q (.bl true) H1 else tb σ H1 Q) : tOrV ta tb σ H Q := q
theorem r_notV (q : ta σ H fun x H1 => ∃ c, x = .bl c ∧ Q (.bl (!c)) H1) : tNotV ta σ H Q := q
theorem r_blV {P : Bool → Prop} (q : P bb) : ∃ c, V.bl bb = .bl c ∧ P c := ⟨bb, rfl, q⟩
theorem r_if (q : t σ H fun c H1 => if c = true then ta σ H1 Q else tb σ H1 Q) : tIf t ta tb σ H Q := q
/-- an if by what is decided -/
theorem r_dec {P : Prop} [Decidable P] {A B : Prop} (h1 : P → A) (h2 : ¬ P → B) : if decide P = true then A else B := by
  by_cases h : P
  · rw [decide_eq_true h, if_pos rfl]; exact h1 h
  · rw [decide_eq_false h, if_neg Bool.false_ne_true]; exact h2 h
theorem r_ndec {P : Prop} [Decidable P] {A B : Prop} (h1 : ¬ P → A) (h2 : P → B) : if (!decide P) = true then A else B := by
  by_cases h : P
  · rw [decide_eq_true h, Bool.not_true, if_neg Bool.false_ne_true]; exact h2 h
  · rw [decide_eq_false h, Bool.not_false, if_pos rfl]; exact h1 h
theorem r_yes {A B : Prop} (e : bb = true) (q : A) : if bb = true then A else B := by rw [if_pos e]; exact q
theorem r_no {A B : Prop} (e : bb = false) (q : B) : if bb = true then A else B := by rw [e, if_neg Bool.false_ne_true]; exact q
/-! calls of built-ins, displays -/
theorem r_CB {rc : List V → Hp → VK → Prop} (q : tr σ H fun vs H1 => rc vs H1 Q) : tCB rc tr σ H Q := q
theorem r_nil (q : QA [] H) : tNil σ H QA := q
theorem r_cons (q : ta σ H fun x H1 => tr σ H1 fun xs H2 => QA (x :: xs) H2) : tCons ta tr σ H QA := q
/-- a new object: the heap grows by it -/
theorem r_tup (q : tr σ H fun xs H1 => xs.length ≤ sizeLine ∧ ∀ p H2, H1 p = none → Same H1 H2 → H2 p = some (.tup xs) → (∀ b, b ≠ p → H2 b = H1 b) → Q (.ref p) H2) : tTup tr σ H Q := by
  have e : (fun xs H1 => xs.length ≤ sizeLine ∧ ∀ p H2, H1 p = none → Same H1 H2 → H2 p = some (.tup xs) → (∀ b, b ≠ p → H2 b = H1 b) → Q (.ref p) H2) = (fun xs H1 => xs.length ≤ sizeLine ∧ ∀ p, H1 p = none → Q (.ref p) (upd H1 p (.tup xs))) := by
    funext xs H1
    refine propext ⟨fun ⟨a, z⟩ => ⟨a, fun p hp => z p _ hp (fun b o e => by rw [upd_ne (ne_of_none e hp)]; exact e) upd_same fun b hb => upd_ne hb⟩, fun ⟨a, z⟩ => ⟨a, fun p H2 hp s e ne => ?_⟩⟩
    have : H2 = upd H1 p (.tup xs) := by
      funext b
      by_cases hb : b = p
      · subst hb; rw [e, upd_same]
      · rw [upd_ne hb, ne b hb]
    rw [this]; exact z p hp
  show tr σ H (fun xs H1 => xs.length ≤ sizeLine ∧ ∀ p, H1 p = none → Q (.ref p) (upd H1 p (.tup xs)))
  rw [← e]; exact q
theorem r_lst (q : tr σ H fun xs H1 => xs.length ≤ sizeLine ∧ ∀ p H2, H1 p = none → Same H1 H2 → H2 p = some (.lst xs) → (∀ b, b ≠ p → H2 b = H1 b) → Q (.ref p) H2) : tLst tr σ H Q := by
  have e : (fun xs H1 => xs.length ≤ sizeLine ∧ ∀ p H2, H1 p = none → Same H1 H2 → H2 p = some (.lst xs) → (∀ b, b ≠ p → H2 b = H1 b) → Q (.ref p) H2) = (fun xs H1 => xs.length ≤ sizeLine ∧ ∀ p, H1 p = none → Q (.ref p) (upd H1 p (.lst xs))) := by
    funext xs H1
    refine propext ⟨fun ⟨a, z⟩ => ⟨a, fun p hp => z p _ hp (fun b o e => by rw [upd_ne (ne_of_none e hp)]; exact e) upd_same fun b hb => upd_ne hb⟩, fun ⟨a, z⟩ => ⟨a, fun p H2 hp s e ne => ?_⟩⟩
    have : H2 = upd H1 p (.lst xs) := by
      funext b
      by_cases hb : b = p
      · subst hb; rw [e, upd_same]
      · rw [upd_ne hb, ne b hb]
    rw [this]; exact z p hp
  show tr σ H (fun xs H1 => xs.length ≤ sizeLine ∧ ∀ p, H1 p = none → Q (.ref p) (upd H1 p (.lst xs)))
  rw [← e]; exact q
theorem r_new {o : HO} {R : Addr → Hp → Prop} (hz : xs.length ≤ 100000) (q : ∀ p H2, H p = none → Same H H2 → H2 p = some o → (∀ b, b ≠ p → H2 b = H b) → R p H2) : xs.length ≤ sizeLine ∧ ∀ p H2, H p = none → Same H H2 → H2 p = some o → (∀ b, b ≠ p → H2 b = H b) → R p H2 :=
  ⟨Nat.le_trans hz (by decide), q⟩
/-! items of lists, tuples -/
theorem r_ixL (h : SqL K H p xs) (e : atI xs m = some v) (q : Q v H) : rIxL K (.ref p) (.int m) H Q := ⟨p, xs, m, v, rfl, rfl, h, e, q⟩
theorem r_ixT (h : SqT K H p xs) (e : atI xs m = some v) (q : Q v H) : rIxT K (.ref p) (.int m) H Q := ⟨p, xs, m, v, rfl, rfl, h, e, q⟩
/-! attributes -/
theorem r_fld {f : Str} (q : ta σ H fun x H1 => ∃ a C dx fs v, x = .ref a ∧ H1 a = some (.ins C dx fs) ∧ Cls K C ∧ NoAttr K C f ∧ fs.lookup f = some v ∧ Q v H1) : tFld K ta f σ H Q := q
theorem r_fldAt {C dx : Addr} {fs : List (Str × V)} {f : Str} (h : H a = some (.ins C dx fs)) (c : Cls K C) (na : NoAttr K C f) (e : fs.lookup f = some v) (q : Q v H) :
    ∃ a' C dx fs v, V.ref a = .ref a' ∧ H a' = some (.ins C dx fs) ∧ Cls K C ∧ NoAttr K C f ∧ fs.lookup f = some v ∧ Q v H := ⟨a, C, dx, fs, v, rfl, h, c, na, e, q⟩
theorem r_prop {C : Addr} {dvs : List V} (q : ta σ H fun x H1 => ∃ a dx fs, x = .ref a ∧ H1 a = some (.ins C dx fs) ∧ sp (.ref a :: dvs) H1 Q E) : tProp C sp dvs E ta σ H Q := q
theorem r_propAt {C dx : Addr} {fs : List (Str × V)} {dvs : List V} (h : H a = some (.ins C dx fs)) (q : sp (.ref a :: dvs) H Q E) : ∃ a' dx fs, V.ref a = .ref a' ∧ H a' = some (.ins C dx fs) ∧ sp (.ref a' :: dvs) H Q E := ⟨a, dx, fs, rfl, h, q⟩
/-! calls of defs -/
theorem r_call {dvs : List V} (q : tr σ H fun vs H1 => sp (vs ++ dvs) H1 Q E) : tCall sp dvs E tr σ H Q := q
theorem r_meth {C : Addr} {mm : Str} {dvs : List V} (q : ta σ H fun x H1 => ∃ a dx fs, x = .ref a ∧ H1 a = some (.ins C dx fs) ∧ fs.lookup mm = none ∧ tr σ H1 fun vs H2 => sp (x :: (vs ++ dvs)) H2 Q E) : tMeth C mm sp dvs E ta tr σ H Q := q
theorem r_methAt {C dx : Addr} {fs : List (Str × V)} {mm : Str} {dvs : List V} (h : H a = some (.ins C dx fs)) (e : fs.lookup mm = none) (q : tr σ H fun vs H2 => sp (.ref a :: (vs ++ dvs)) H2 Q E) :
    ∃ a' dx fs, V.ref a = .ref a' ∧ H a' = some (.ins C dx fs) ∧ fs.lookup mm = none ∧ tr σ H fun vs H2 => sp (.ref a :: (vs ++ dvs)) H2 Q E := ⟨a, dx, fs, rfl, h, e, q⟩
theorem r_make {C : Addr} {dvs : List V} (q : tr σ H fun vs H1 => ∀ x dx, H1 x = none → H1 dx = none → dx ≠ x → sp (.ref x :: (vs ++ dvs)) (upd (upd H1 dx (.own x)) x (.ins C dx [])) (fun v H2 => v = .non ∧ Q (.ref x) H2) E) : tMake C sp dvs E tr σ H Q := q
/-! statements -/
theorem r_seq (q : s1 ⟨fun σ H => s2 ⟨n, r, b, c⟩ σ H, r, b, c⟩ σ H) : tSeq s1 s2 ⟨n, r, b, c⟩ σ H := q
theorem r_asg (q : ta σ H fun x H1 => g x σ H1 n) : tAsg ta g ⟨n, r, b, c⟩ σ H := q
theorem r_par (q : tr σ H fun vs H1 => ∃ v w, vs = [v, w] ∧ n ((σ.set i (some v)).set j (some w)) H1) : tPar i j tr ⟨n, r, b, c⟩ σ H := q
theorem r_parAt {w : V} (q : n ((σ.set i (some v)).set j (some w)) H) : ∃ v' w', [v, w] = [v', w'] ∧ n ((σ.set i (some v')).set j (some w')) H := ⟨v, w, rfl, q⟩
theorem r_ret (q : ta σ H r) : tRet ta ⟨n, r, b, c⟩ σ H := q
theorem r_drop (q : ta σ H fun _ H1 => n σ H1) : tDrop ta ⟨n, r, b, c⟩ σ H := q
theorem r_ifS (q : t σ H fun bb H1 => if bb = true then s1 ⟨n, r, b, c⟩ σ H1 else s2 ⟨n, r, b, c⟩ σ H1) : tIfS t s1 s2 ⟨n, r, b, c⟩ σ H := q
theorem r_next (q : n σ H) : tNext ⟨n, r, b, c⟩ σ H := q
theorem r_fieldS {tv : TE} {f : Str} (q : tv σ H fun y H1 => ta σ H1 fun x H2 => ∃ a C dx fs, x = .ref a ∧ H2 a = some (.ins C dx fs) ∧ Cls K C ∧ NoAttr K C f ∧ fs.length < 1000 ∧ n σ (upd H2 a (.ins C dx (putF f y fs)))) : sFld K ta tv f ⟨n, r, b, c⟩ σ H := q
theorem r_fieldAt {C dx : Addr} {fs : List (Str × V)} {f : Str} (h : H a = some (.ins C dx fs)) (cl : Cls K C) (na : NoAttr K C f) (hl : fs.length < 1000) (q : n σ (upd H a (.ins C dx (putF f y fs)))) :
    ∃ a' C dx fs, V.ref a = .ref a' ∧ H a' = some (.ins C dx fs) ∧ Cls K C ∧ NoAttr K C f ∧ fs.length < 1000 ∧ n σ (upd H a' (.ins C dx (putF f y fs))) := ⟨a, C, dx, fs, rfl, h, cl, na, hl, q⟩
/-! targets -/
theorem r_gname (q : QS (σ.set i (some v)) H) : gName i v σ H QS := q
theorem r_gnil (q : QS σ H) : gNil [] σ H QS := ⟨rfl, q⟩
theorem r_gcons (q : g v σ H fun σ' H' => gs xs σ' H' QS) : gCons g gs (v :: xs) σ H QS := ⟨v, xs, rfl, q⟩
theorem r_gtup {l : Nat} (h : SqT K H p xs) (e : xs.length = l) (q : gs xs σ H QS) : gTup K l gs (.ref p) σ H QS := ⟨p, xs, rfl, h, e, q⟩
theorem r_gsub {to ti : TE} {ts : TSet} (q : to σ H fun o H1 => ti σ H1 fun i H2 => ts o i v H2 fun H3 => QS σ H3) : gSub to ti ts v σ H QS := q
/-! texts -/
theorem r_fmt (q : ta σ H fun x H1 => (∃ y : Str, x = .str y ∧ y.length ≤ sizeLine ∧ Q (.str y) H1) ∨ ∃ i : Int, x = .int i ∧ i.natAbs.log2 < 1920 ∧ Q (.str (toString i)) H1) : tFmt ta σ H Q := q
theorem r_fmtI (h : m.natAbs.log2 < 1920) (q : Q (.str (toString m)) H) : (∃ y : Str, V.int m = .str y ∧ y.length ≤ sizeLine ∧ Q (.str y) H) ∨ ∃ i : Int, V.int m = .int i ∧ i.natAbs.log2 < 1920 ∧ Q (.str (toString i)) H := .inr ⟨m, rfl, h, q⟩
theorem r_fmtS (h : z.length ≤ sizeLine) (q : Q (.str z) H) : (∃ y : Str, V.str z = .str y ∧ y.length ≤ sizeLine ∧ Q (.str y) H) ∨ ∃ i : Int, V.str z = .int i ∧ i.natAbs.log2 < 1920 ∧ Q (.str (toString i)) H := .inl ⟨z, rfl, h, q⟩
theorem r_js0 {acc : Str} {QJ : Str → Hp → Prop} (q : QJ acc H) : tJs [] acc σ H QJ := q
theorem r_js {acc : Str} {QJ : Str → Hp → Prop} {ts : List TE} (q : ta σ H fun x H1 => ∃ y : Str, x = .str y ∧ (acc ++ y).length ≤ sizeLine ∧ tJs ts (acc ++ y) σ H1 QJ) : tJs (ta :: ts) acc σ H QJ := q
theorem r_jsAt {acc : Str} {QJ : Str → Hp → Prop} {ts : List TE} (h : (acc ++ z).length ≤ sizeLine) (q : tJs ts (acc ++ z) σ H QJ) : ∃ y : Str, V.str z = .str y ∧ (acc ++ y).length ≤ sizeLine ∧ tJs ts (acc ++ y) σ H QJ := ⟨z, rfl, h, q⟩
end
end LL
/-! LL4: the head by facts of our own, the law's end. -/
namespace LL
open PySem PySem.Spec PyProof.Rows L2

/-! ### facts by Bools -/
/-- the getter of the class's property -/
def pget (K : PySem.W.Frag) (C m : Str) : Addr := match PySem.W.recIn K (He.ma K (He.ga K C) m) "property" with
  | some (.ref f :: _) => f
  | _ => 0
def propB (K : PySem.W.Frag) (C m : Str) : Bool := He.eqO (PySem.W.findIn K (.ref (He.ga K C)) m) (some (some (.ref (He.ma K (He.ga K C) m)))) &&
  (He.eqO (PySem.W.specialIn K (.ref (He.ma K (He.ga K C) m)) "__get__") (some (some (.builtin "property.__get__"))) && (decide (PySem.W.takesIn K (.ref (He.ma K (He.ga K C) m)) = some true) &&
  (match PySem.W.recIn K (He.ma K (He.ga K C) m) "property" with
    | some (.ref _ :: _) => true
    | _ => false)))
theorem propB_ok {K : PySem.W.Frag} {C m : Str} (h : propB K C m = true) : PropOf K (He.ga K C) m (He.ma K (He.ga K C) m) (pget K C m) := by
  obtain ⟨h1, h⟩ := He.ba h
  obtain ⟨h2, h⟩ := He.ba h
  obtain ⟨h3, h4⟩ := He.ba h
  refine ⟨He.eqO_ok h1, He.eqO_ok h2, of_decide_eq_true h3, ?_⟩
  unfold pget
  split at h4
  · rename_i f r e
    exact ⟨r, by rw [e]⟩
  · cases h4
def bltB (K : PySem.W.Frag) (x : Str) (id : String) : Bool := He.eqO (PySem.W.nsIn K mainGlobals x) (some (some (.builtin id)))
theorem bltB_ok {K : PySem.W.Frag} {h : Heap} {mg : Str → Option Value} (X : K.In h) (G : h.Ns mainGlobals mg) {x : Str} {id : String} (c : bltB K x id = true) : mg x = some (.builtin id) := PySem.W.mg_of X G (He.eqO_ok c)
def fnB (K : PySem.W.Frag) (C m : Str) : Bool := He.eqO (PySem.W.findIn K (.ref (He.ga K C)) m) (some (some (.ref (He.ma K (He.ga K C) m)))) && PySem.W.isFn K (.ref (He.ma K (He.ga K C) m))
theorem fnB_ok {K : PySem.W.Frag} {C m : Str} (h : fnB K C m = true) : UnOwn K (He.ga K C) m (He.ma K (He.ga K C) m) := by
  obtain ⟨h1, h2⟩ := He.ba h
  exact ⟨He.eqO_ok h1, h2⟩
def opB (K : PySem.W.Frag) (C : Str) (nm : String) (Ts : List String) : Bool := PySem.W.selfFirst K (He.ga K C) && (fnB K C (PySem.dunder nm) && (He.eqO (PySem.W.findIn K (.ref (He.ga K C)) (dunderR nm)) (some none) &&
  Ts.all fun T => (PySem.W.findIn K (.type T) (PySem.dunder nm)).isSome && ((PySem.W.findIn K (.type T) (dunderR nm)).isSome && decide (PySem.W.subIn K (.type T) (.ref (He.ga K C)) = some false))))
theorem opB_ok {K : PySem.W.Frag} {C : Str} {nm : String} {Ts : List String} (h : opB K C nm Ts = true) : OpOwn K (He.ga K C) nm (He.ma K (He.ga K C) (PySem.dunder nm)) Ts := by
  obtain ⟨h1, h⟩ := He.ba h
  obtain ⟨h2, h⟩ := He.ba h
  obtain ⟨h3, h4⟩ := He.ba h
  have u := fnB_ok h2
  refine ⟨h1, u.at_, u.fn, He.eqO_ok h3, fun T hT => ?_⟩
  obtain ⟨a, b⟩ := He.ba (List.all_eq_true.mp h4 T hT)
  obtain ⟨b, c⟩ := He.ba b
  exact ⟨Option.isSome_iff_exists.mp a, Option.isSome_iff_exists.mp b, of_decide_eq_true c⟩
def eqB (K : PySem.W.Frag) (C : Str) (Ts : List String) : Bool := fnB K C "__eq__" && Ts.all fun T => PySem.W.notFirst K (He.ga K C) (.type T)
theorem eqB_ok {K : PySem.W.Frag} {C : Str} {Ts : List String} (h : eqB K C Ts = true) : EqOwn K (He.ga K C) (He.ma K (He.ga K C) "__eq__") Ts := by
  obtain ⟨h1, h2⟩ := He.ba h
  have u := fnB_ok h1
  exact ⟨u.at_, u.fn, fun T hT => List.all_eq_true.mp h2 T hT⟩
def neB (K : PySem.W.Frag) (C : Str) (Ts : List String) : Bool := eqB K C Ts && (decide (PySem.W.mroIn K (He.ga K C) (.type "object") = some true) && He.eqO (PySem.W.findIn K (.ref (He.ga K C)) "__ne__") (some (some (.builtin "object.__ne__"))))
theorem neB_ok {K : PySem.W.Frag} {C : Str} {Ts : List String} (h : neB K C Ts = true) : NeOwn K (He.ga K C) (He.ma K (He.ga K C) "__eq__") Ts := by
  obtain ⟨h1, h⟩ := He.ba h
  obtain ⟨h2, h3⟩ := He.ba h
  exact ⟨eqB_ok h1, of_decide_eq_true h2, He.eqO_ok h3⟩
/-- what isinstance asks of an own class -/
structure IsiOwn (K : PySem.W.Frag) (C : Addr) : Prop where
  ha : PySem.W.findIn K (.ref C) "__class__" = some (some (.builtin "object.__class__"))
  hn : PySem.W.specialIn K (.builtin "object.__class__") "__get__" = some (some (.builtin "getset_descriptor.__get__"))
  ht : PySem.W.takesIn K (.builtin "object.__class__") = some true
  hm : PySem.W.mroIn K C (.type "object") = some true
def isiB (K : PySem.W.Frag) (C : Str) : Bool := He.eqO (PySem.W.findIn K (.ref (He.ga K C)) "__class__") (some (some (.builtin "object.__class__"))) && (He.eqO (PySem.W.specialIn K (.builtin "object.__class__") "__get__") (some (some (.builtin "getset_descriptor.__get__"))) &&
  (decide (PySem.W.takesIn K (.builtin "object.__class__") = some true) && decide (PySem.W.mroIn K (He.ga K C) (.type "object") = some true)))
theorem isiB_ok {K : PySem.W.Frag} {C : Str} (h : isiB K C = true) : IsiOwn K (He.ga K C) := by
  obtain ⟨h1, h⟩ := He.ba h
  obtain ⟨h2, h⟩ := He.ba h
  obtain ⟨h3, h4⟩ := He.ba h
  exact ⟨He.eqO_ok h1, He.eqO_ok h2, of_decide_eq_true h3, of_decide_eq_true h4⟩
/-- isinstance(a value of type T, the class C): the answer b -/
def kitTB (K : PySem.W.Frag) (T : String) (C : Str) (b : Bool) : Bool := decide (PySem.W.kitOne K (.type T) (.ref (He.ga K C)) = some b)
theorem kitTB_ok {K : PySem.W.Frag} {T : String} {C : Str} {b : Bool} (h : kitTB K T C b = true) : PySem.W.kitOne K (.type T) (.ref (He.ga K C)) = some b := of_decide_eq_true h
theorem kit_self {K : PySem.W.Frag} {C : Addr} : PySem.W.kitOne K (.ref C) (.ref C) = some true := by
  unfold PySem.W.kitOne
  rw [if_pos (beq_self_eq_true _)]

/-! ### the hook -/
def obsLG (n : Nat) (fa : List He.Fa) (fn : List He5.DefA) (ex : PySem.W.Frag → Bool) (g : Addr → Option Obj) : He.AlD × Bool := (He5.obsAG n fa fn g, ex (He.frG g (He5.asA g n)))
def hookL (n : Nat) (fa : List He.Fa) (fn : List He5.DefA) (ex : PySem.W.Frag → Bool) : PySem.W.Hook where
  α := He.AlD × Bool
  obs := fun s => obsLG n fa fn ex s.heap.get?
  val := fun _ => (He5.valA fn, true)
  says := fun _ h => ∃ K : PySem.W.Frag, K.In h ∧ He5.SaysA fa fn K ∧ ex K = true
  of := fun _ s e => ⟨_, He.frG_in, congrArg Prod.fst e, congrArg Prod.snd e⟩
  keeps := fun _ _ _ ⟨K, hK, c, x⟩ k => ⟨K, PySem.W.Frag.In.keeps hK k, c, x⟩
theorem obsLG_eq {n : Nat} {fa : List He.Fa} {fn : List He5.DefA} {ex : PySem.W.Frag → Bool} {g : Addr → Option Obj} {s : Shared} (h : ∀ a, g a = s.heap.get? a) : obsLG n fa fn ex g = (hookL n fa fn ex).obs s := by
  have e : g = s.heap.get? := funext h
  subst e
  rfl

/-! ### the law's call -/
theorem law_g {P : Program} {w : World} {K : PySem.W.Frag} {mg mb : Str → Option Value} {CX : CXT} {g : Bool} {k : Nat} {fa a : Addr} {fd : FuncData} {x : Str} {sp : Sp} {s0 : Shared} {us : List Value} {ns : List Int}
    (KX : K.In s0.heap) (G : s0.heap.Ns mainGlobals mg) (B : s0.heap.Ns builtinsNs mb) (BB : ∀ x : Str, x ≠ "__name__" → mb x = bootBuiltins x) (L : s0.heap.NoLimit) (gens : s0.gens = #[])
    (ha : s0.heap.get? a = some { cls := .type "list", data := .seq us.toArray }) (hi : IntsAre us ns) (hl : ns.length ≤ sizeLine) (room : Room k callerA)
    (F : ∀ base : Heap, K.In base → base.Ns mainGlobals mg → FnG P w K mg base CX g k fa fd [x] sp) (bind : ∀ (s : Shared) (u : Value), BindsTo s fd ⟨[u], []⟩ [(x, u)])
    (want : ∀ H : Hp, Only H → SqL K H a (ns.map V.int) → sp [.ref a] H (fun v _ => v = .bl true) fun _ _ _ => False) (none_ : ∀ H e s', CX [] H s0 (fun _ _ _ => False) e s' → False) :
    codeAny (model P w) callerA (.call (.ref fa) ⟨[.ref a], []⟩) (fun r s' => r = .ok (.ret (.bool true)) ∧ OldK s0.heap s'.heap ∧ s'.os = s0.os ∧ AllBare s'.gens) s0 := by
  have rel := vals_ints hi
  have go : ∀ H : Hp, Only H → SqL K H a (ns.map V.int) → HOk P w H s0.heap → (∀ b, H b ≠ none → b = a) → (H a ≠ none → K.lookup a = none) →
      codeAny (model P w) callerA (.call (.ref fa) ⟨[.ref a], []⟩) (fun r s' => r = .ok (.ret (.bool true)) ∧ OldK s0.heap s'.heap ∧ s'.os = s0.os ∧ AllBare s'.gens) s0 := by
    intro H only seq hok onlyA freeK
    have isA : ∀ {b : Addr} {u : HO}, H b = some u → b = a := fun {b u} e => onlyA b (fun z => by rw [e] at z; cases z)
    have dictFree : ∀ {b : Addr} {o : Obj} {es : Array DictEntry} {ep : Nat}, s0.heap.get? b = some o → o.data = .dict es ep → H b = none := by
      intro b o es ep e d
      match q : H b with
      | none => rfl
      | some u =>
        have e1 := isA q
        rw [e1, ha] at e
        cases e
        cases d
    have up : ∀ {b : Addr} {m : Str → Option Value}, s0.heap.Ns b m → (hidT s0.heap H).Ns b m := by
      rintro b m ⟨o, es, ep, e, d, r⟩
      exact ⟨o, es, ep, hidT_get e (dictFree e d), d, r⟩
    have KB : K.In (hidT s0.heap H) := by
      intro b o e
      refine hidT_get (KX b o e) ?_
      match q : H b with
      | none => rfl
      | some u =>
        have e1 := isA q
        rw [e1] at q e
        rw [freeK (fun z => by rw [q] at z; cases z)] at e
        cases e
    obtain ⟨mc, l1, l2⟩ := L
    have M : Mod K mg (hidT s0.heap H) := ⟨KB, up G, ⟨mb, up B, BB⟩, ⟨mc, up l1, l2⟩⟩
    have e0 : Env0 P w K mg (hidT s0.heap H) callerA [] s0 H := ⟨rfl, M, fun _ _ e => of_hidT e, Nat.le_of_eq (hidT_size _ _), trivial, (fun b hb => nomatch hb), hok, .of_eq gens⟩
    refine codeAny_mono ((F _ KB (up G)).run callerA [] s0 H ⟨[.ref a], []⟩ [.ref a] [.ref a] _ _ room (fun _ => rfl) e0 (bind s0 (.ref a)) (.cons rfl .nil) (want H only seq)) ?_
    intro r s' h
    match r, h with
    | .error e, h => exact (none_ H e s' h).elim
    | .ok .next, h => exact h.elim
    | .ok .brk, h => exact h.elim
    | .ok .cont, h => exact h.elim
    | .ok (.ret u), h =>
      obtain ⟨v, H', os, bare, un, hok', rv, ev⟩ := h
      have ev : v = V.bl true := ev
      subst ev
      obtain rfl : u = Value.bool true := rv
      refine ⟨rfl, OldK.of_keep (fun b o e => ?_), os, bare⟩
      rcases only b with q | ⟨ob, xs, q⟩
      · exact un.keep b o e q (fun z => nomatch z) (by simp)
      · have z1 := (hok b _ q).1
        have z2 := (hok' b _ (un.frzs b ob _ q)).1
        rw [e] at z1
        cases z1
        exact z2
  match hk : K.lookup a with
  | some o =>
    have e := KX a o hk
    rw [ha] at e
    cases e
    have lenV := hi.length
    exact go (fun _ => none) (fun _ => .inl rfl) (.inr ⟨_, us.toArray, _, hk, rfl, rfl, rfl, by rw [List.size_toArray, lenV]; exact hl, by simpa using rel⟩) (fun b u z => nomatch z) (fun b z => (z rfl).elim) (fun z => (z rfl).elim)
  | none =>
    have at_ : (upd (fun _ => none) a (.frz { cls := .type "list", data := .seq us.toArray } (.lst (ns.map V.int)))) a = some (HO.frz { cls := .type "list", data := .seq us.toArray } (.lst (ns.map V.int))) := upd_same
    have off : ∀ b, b ≠ a → (upd (fun _ => none) a (.frz { cls := .type "list", data := .seq us.toArray } (.lst (ns.map V.int)))) b = none := fun b hb => upd_ne hb
    refine go (upd (fun _ => none) a (.frz { cls := .type "list", data := .seq us.toArray } (.lst (ns.map V.int)))) (fun b => ?_) (.inl (.inr ⟨_, at_⟩)) (fun b u z => ?_) (fun b z => ?_) (fun _ => hk)
    · by_cases hb : b = a
      · subst hb; exact .inr ⟨_, _, at_⟩
      · exact .inl (off b hb)
    · by_cases hb : b = a
      · subst hb
        rw [at_] at z
        cases z
        exact ⟨ha, by rw [List.length_map]; exact hl, us, _, rel, ha⟩
      · rw [off b hb] at z
        cases z
    · by_cases hb : b = a
      · exact hb
      · exact (z (off b hb)).elim
/-- a name that the text imports from math -/
theorem xl_fn {q : Program} {mg : Str → Option Value} {h : Heap} {x : Str} {id : String} (XX : PySem.W.XL q [] mg h) (hx : (Flt.mathDrawn q).lookup x = some (.fn id)) : mg x = some (.builtin id) :=
  XX.1.drawn (x, .fn id) (PySem.mem_of_lookup hx)
theorem walk_g {l : PySem.W.OpenLaw} {n k : Nat} {g : Bool} {q : Program} {loose : List Str} {XP : (Str → Option Value) → Heap → Prop} {YP : World → Heap → Prop} {d : DefRec} {CX : CXT} {x : Str}
    (hn : l.most = some n) (hn2 : n ≤ sizeLine) (hdf : d.params.defaults = []) (room : Room k callerA)
    (F : ∀ (w : World) (mg : Str → Option Value) (fa : Addr) (h : Heap), YP w h → XP mg h → h.Ns mainGlobals mg → mg d.name = some (.ref fa) →
      ∃ (K : PySem.W.Frag) (fd : FuncData) (sp : Sp), K.In h ∧ (∀ (s : Shared) (u : Value), BindsTo s fd ⟨[u], []⟩ [(x, u)]) ∧
        (∀ (H : Hp) (a : Addr) (ns : List Int), ns.length ≤ n → Only H → SqL K H a (ns.map V.int) → sp [.ref a] H (fun v _ => v = .bl true) fun _ _ _ => False) ∧
        ∀ base : Heap, K.In base → base.Ns mainGlobals mg → FnG l.prog w K mg base CX g k fa fd [x] sp)
    (none_ : ∀ (H : Hp) (s : Shared) (e : Value) (s' : Shared), CX [] H s (fun _ _ _ => False) e s' → False) : PySem.W.WalkO q loose XP YP l.row.toRowW d [] (fun f vs => PySem.call f vs) := by
  refine Att.attach_call hn hdf ?_
  intro w s0 s1 mg mb fa o pm cd doc a us ns G Y ho hd hcd hmg hobj hints hlen gens
  obtain ⟨K, fd, sp, KX, hb, hsp, hF⟩ := F w mg fa _ Y G.X G.T.g hmg
  exact law_g KX G.T.g G.T.b G.T.builtins G.T.nolimit gens hobj hints (Nat.le_trans hlen hn2) room hF hb (fun H only seq => hsp H a ns hlen only seq) (fun H e s' => none_ H s1 e s')
end LL
/-! LL5: the head of a program that begins with imports: the imports and the top in one kernel run over the heap as a tree. -/
noncomputable section
namespace LL
open PySem PySem.W PySem.Calls PyProof.Rows HandSHeadRun

def impF (st : SharedT → Thread → Option (SharedT × Thread)) : Nat → SharedT → Thread → Option SharedT
  | 0, _, _ => none
  | m + 1, s, t => match t.atExitBegin with
    | some [] => some s
    | some (_ :: _) => none
    | none => match st s t with
      | some (s', t') => frS s' fun s' => impF st m s' t'
      | none => none
theorem impF_ok {tb : String → Option Builtin} {p : Program} {w : World} : ∀ {m : Nat} {s s' : SharedT} {t : Thread}, impF (stepT (denote tb) p w) m s t = some s' → importEnds tb p w m s.abs t = some s'.abs
  | 0, _, _, _, h => nomatch h
  | m + 1, s, s', t, h => by
    unfold impF at h
    unfold importEnds
    match hx : t.atExitBegin, h with
    | some [], h => cases h; rfl
    | some (_ :: _), h => cases h
    | none, h =>
      match hs : stepT (denote tb) p w s t, h with
      | none, h => cases h
      | some (s2, t2), h =>
        have h2 : frS s2 (fun s' => impF (stepT (denote tb) p w) m s' t2) = some s' := h
        rw [frS_eq] at h2
        have q := impF_ok h2
        show (match step (denote tb) p w s.abs t with
          | .go s' t' => importEnds tb p w m s' t'
          | .halt _ _ => none) = some s'.abs
        rw [stepT_spec hs]
        exact q
/-- the state at the very start -/
def startT (p : Program) : SharedT := ⟨.nil, 0, ({} : Heap).life, #[], {}, 1, { stdin := p.given.stdin.toArray }⟩
theorem startT_abs (p : Program) : (startT p).abs = (start p).1 := rfl
/-- a state as a tree -/
def treeOf (s : Shared) : Option SharedT := match putAll s.heap.objs.toList .nil 0 with
  | some (t, n) => frNat n fun n => some ⟨t, n, s.heap.life, s.gens, s.drawn, s.toks, s.os⟩
  | none => none
theorem treeOf_ok {s : Shared} {t : SharedT} (h : treeOf s = some t) : t.abs = s := by
  unfold treeOf at h
  match e : putAll s.heap.objs.toList .nil 0, h with
  | none, h => cases h
  | some (b, n), h =>
    have h2 : frNat n (fun n => some (⟨b, n, s.heap.life, s.gens, s.drawn, s.toks, s.os⟩ : SharedT)) = some t := h
    rw [frNat_eq] at h2
    cases h2
    show (⟨absHeap b n s.heap.life, s.gens, s.drawn, s.toks, s.os⟩ : Shared) = s
    rw [putAll_heap e]
/-- behind the imports, fenced -/
def openT (st : Program → SharedT → Thread → Option (SharedT × Thread)) (N : Nat) (p : Program) : Option SharedT := match impF (st (opening p)) N (startT (opening p)) (start (opening p)).2 with
  | some s0 => (match fenceModules? p s0.abs with
    | some s1 => treeOf s1
    | none => none)
  | none => none
/-- behind the top -/
def topT (st : Program → SharedT → Thread → Option (SharedT × Thread)) (M : Nat) (p : Program) (s : SharedT) : Option SharedT := match s.abs.heap.isNs mainGlobals && s.gens.size == 0 with
  | true => frNat s.n fun n0 => goF (st p) n0 (s.abs.heap.nsMap mainGlobals "__annotations__") M s (topStub p)
  | false => none
def endT (st : Program → SharedT → Thread → Option (SharedT × Thread)) (N M : Nat) (p : Program) : Option (SharedT × SharedT) := match openT st N p with
  | some s => (match topT st M p s with
    | some s' => some (s, s')
    | none => none)
  | none => none
theorem abs_size (s : SharedT) : s.abs.heap.objs.size = s.n := absHeap_size s.tree s.n s.life
theorem left_imp {p q : Program} {loose : List Str} {Xt : Shared → Bool} {α : Type} {Yf : Shared → α} {Ya : World → α} {N M : Nat} (le : Nat.ble M N = true)
    (run : ∀ w : World, (endT (fun p => stepT (denote treeTable) p w) N M p).map (fun r => (looksF p r.1.abs.heap r.2.abs, openSeen q loose (importedModules p.main.body) Xt true r.2.abs, Yf r.2.abs)) = some (true, openGood q loose, Ya w)) :
    LeftO p q loose Xt Yf Ya N true := by
  intro w
  obtain ⟨⟨s1, s⟩, e, hv⟩ := Option.map_eq_some_iff.mp (run w)
  obtain ⟨l1, l2, l3⟩ : _ ∧ _ ∧ _ := by simpa only [Prod.mk.injEq] using hv
  -- the opening
  unfold endT at e
  match ho : openT (fun p => stepT (denote treeTable) p w) N p, e with
  | none, e => cases e
  | some sA, e =>
    have e1 : (match topT (fun p => stepT (denote treeTable) p w) M p sA with
      | some s' => some (sA, s')
      | none => none) = some (s1, s) := e
    match ht : topT (fun p => stepT (denote treeTable) p w) M p sA, e1 with
    | none, e1 => cases e1
    | some sB, e1 =>
      cases e1
      have fo : fencedOpening treeTable p w N = some s1.abs := by
        unfold openT at ho
        match hi : impF (stepT (denote treeTable) (opening p) w) N (startT (opening p)) (start (opening p)).2, ho with
        | none, ho => cases ho
        | some s0, ho =>
          have h1 : (match fenceModules? p s0.abs with
            | some s1 => treeOf s1
            | none => none) = some s1 := ho
          match hf : fenceModules? p s0.abs, h1 with
          | none, h1 => cases h1
          | some s2, h1 =>
            have h2 : treeOf s2 = some s1 := h1
            unfold fencedOpening
            have q := impF_ok hi
            rw [startT_abs] at q
            rw [q]
            show fenceModules? p s0.abs = some s1.abs
            rw [hf, treeOf_ok h2]
      have tf : topFrom treeTable p w N s1.abs = some s.abs := by
        unfold topT at ht
        unfold topFrom
        match hb : (s1.abs.heap.isNs mainGlobals && s1.gens.size == 0), ht with
        | false, ht => cases ht
        | true, ht =>
          have h1 : frNat s1.n (fun n0 => goF (stepT (denote treeTable) p w) n0 (s1.abs.heap.nsMap mainGlobals "__annotations__") M s1 (topStub p)) = some s := ht
          rw [frNat_eq] at h1
          have r := topRun_mono (N - M) _ _ _ _ (goF_ok h1)
          rw [show M + (N - M) = N by have := Nat.le_of_ble_eq_true le; omega] at r
          show (topRun treeTable p w s1.abs.heap.objs.size (s1.abs.heap.nsMap mainGlobals "__annotations__") N s1.abs (topStub p)).bind _ = _
          rw [abs_size, r]
          have l1' : (staticsOk (importedModules p.main.body) s1.abs.heap s.abs.heap && namesBound p s.abs.heap && gensDone s.abs && laidKept s1.abs.heap s.abs.heap) = true := l1
          show (match staticsOk (importedModules p.main.body) s1.abs.heap s.abs.heap && namesBound p s.abs.heap && gensDone s.abs && laidKept s1.abs.heap s.abs.heap with | true => some s.abs | false => none) = _
          rw [l1']
      unfold openEnds
      rw [fo]
      show (topFrom treeTable p w N s1.abs).map _ = _
      rw [tf]
      exact congrArg some (Prod.ext l2 l3)
/-- the run's equation, by the library's twins -/
def RunI (r : OpenRow) (q : Program) (H : Hook) (ob : SharedT → H.α) (N M : Nat) (loose : List PySem.Str) (w : World) : Prop :=
  (endT (fun p => stepQ (denQ tabQ) p w) N M r.prog).map (fun z => (looksF r.prog z.1.abs.heap z.2.abs, seenQ q loose (importedModules r.prog.main.body) (fun s => xlAt q [] s && recOk r.toRowW.records s) z.2.abs, ob z.2)) = some (true, openGood q loose, H.val w)
theorem head_imp {r : OpenRow} {q : Program} {H : Hook} {ob : SharedT → H.α} {N M : Nat} {loose : List PySem.Str} {d : DefRec} {kwd : List (PySem.Str × PySem.Expr)} (ho : ∀ s : SharedT, ob s = H.obs s.abs) (le : Nat.ble M N = true)
    (run : ∀ w, RunI r q H ob N M loose w)
    (hdef : defOf q r.name = some (d, kwd)) (hp : r.prog.theDef r.name = some (d.params, d.body, d.scope)) (hk : kwWritten? d.params.kwonlyargs d.params.kw_defaults = some kwd)
    (hwr : (!r.writes || r.records.isEmpty) = true) (k1 : r.wellSaid = true) (ok : (chainsOk q && opensWell r.prog && (frees r.toRowW && r.within.isEmpty)) = true) (hb : r.prog.bare) (hw : r.toRowW.promised)
    (call : WalkO q loose (XL q []) H.says r.toRowW d kwd fun f vs => PySem.call f vs) : r.Holds := by
  have left : LeftO r.prog q loose (fun s => xlAt q [] s && recOk r.toRowW.records s) H.obs H.val N true := left_imp (M := M) le fun w => by
    have z := run w
    have eo : ob = fun s => H.obs s.abs := funext ho
    unfold RunI at z
    rw [eo] at z
    simp only [stepQ_eq, denQ_eq, tabQ_eq, seenQ_eq]
    exact z
  exact holds_open (r := r) (q := q) (loose := loose) (XP := XL q []) (YP := H.says) (d := d) (kwd := kwd) left H.of H.keeps (fun s z => xl_of s (Bool.and_eq_true_iff.mp z).1) XL.keeps hdef hp hk (fun s z => recFacts_of (Bool.and_eq_true_iff.mp z).2) hwr k1 ok hb hw call
end LL
/-! LR2: more readings; sizes; the fraction in lowest terms. -/
namespace LL
open PySem PySem.Spec PyProof.Rows L2

section
variable {σ : L2.St} {H H1 : Hp} {Q : VK} {K : PySem.W.Frag} {x c v : V} {t u : Value} {b : Bool} {m k : Int} {xs : List V} {p : Addr}
theorem r_isi (ht : TyX K H x t) (hc : ClsV c u) (hk : PySem.W.kitOne K t u = some b) (q : Q (.bl b) H) : rIsi K [x, c] H Q := ⟨x, c, t, u, b, rfl, hc, ht, hk, q⟩
theorem ty_int {i : Int} : TyX K H (.int i) (.type "int") := .base (.int i)
theorem ty_own {a C dx : Addr} {fs : List (Str × V)} (e : H a = some (.ins C dx fs)) (cl : Cls K C) (o : IsiOwn K C) : TyX K H (.ref a) (.ref C) := .base (.ins e cl o.ha o.hn o.ht o.hm)
theorem r_notB {QB : V → Hp → Prop} (q : QB (.bl (!b)) H) : ∃ c, V.bl b = .bl c ∧ QB (.bl (!c)) H := ⟨b, rfl, q⟩
theorem r_gcd (q : Q (.int ((Nat.gcd m.natAbs k.natAbs : Nat) : Int)) H) : rGcd [.int m, .int k] H Q := ⟨m, k, rfl, q⟩
theorem r_abs (q : Q (.int (if m < 0 then -m else m)) H) : (fun xs H Q => ∃ i, xs = [V.int i] ∧ Q (V.int (if i < 0 then -i else i)) H) [.int m] H Q := ⟨m, rfl, q⟩
theorem r_max (q : Q (.int (if k > m then k else m)) H) : (fun xs H Q => ∃ i j, xs = [V.int i, V.int j] ∧ Q (V.int (if j > i then j else i)) H) [.int m, .int k] H Q := ⟨m, k, rfl, q⟩
theorem r_min (q : Q (.int (if k < m then k else m)) H) : (fun xs H Q => ∃ i j, xs = [V.int i, V.int j] ∧ Q (V.int (if j < i then j else i)) H) [.int m, .int k] H Q := ⟨m, k, rfl, q⟩
theorem r_int (q : Q (.int m) H) : (fun xs H Q => (∃ i, xs = [V.int i] ∧ Q (V.int i) H) ∨ ∃ k, xs = [V.bl k] ∧ Q (V.int (if k then 1 else 0)) H) [.int m] H Q := .inl ⟨m, rfl, q⟩
theorem r_intB (q : Q (.int (if b then 1 else 0)) H) : (fun xs H Q => (∃ i, xs = [V.int i] ∧ Q (V.int i) H) ∨ ∃ k, xs = [V.bl k] ∧ Q (V.int (if k then 1 else 0)) H) [.bl b] H Q := .inr ⟨b, rfl, q⟩
theorem r_strI (h : m.natAbs.log2 < 1920) (q : Q (.str (toString m)) H) : (fun xs H Q => ∃ i, xs = [V.int i] ∧ i.natAbs.log2 < 1920 ∧ Q (V.str (toString i)) H) [.int m] H Q := ⟨m, rfl, h, q⟩
theorem r_lenL (h : SqL K H p xs) (q : Q (.int xs.length) H) : (fun vs H Q => ∃ p ys, vs = [V.ref p] ∧ (SqL K H p ys ∨ SqT K H p ys) ∧ Q (V.int ys.length) H) [.ref p] H Q := ⟨p, xs, rfl, .inl h, q⟩
theorem r_lenT (h : SqT K H p xs) (q : Q (.int xs.length) H) : (fun vs H Q => ∃ p ys, vs = [V.ref p] ∧ (SqL K H p ys ∨ SqT K H p ys) ∧ Q (V.int ys.length) H) [.ref p] H Q := ⟨p, xs, rfl, .inr h, q⟩
theorem r_addS {z z' : Str} (h : z.length + z'.length ≤ sizeLine) (q : Q (.str (z ++ z')) H) : (fun x y H Q => ∃ i j, x = V.str i ∧ y = V.str j ∧ i.length + j.length ≤ sizeLine ∧ Q (V.str (i ++ j)) H) (.str z) (.str z') H Q := ⟨z, z', rfl, rfl, h, q⟩
theorem r_reprB (q : Q (.str (bText b)) H) : rReprB [.bl b] H Q := ⟨b, rfl, q⟩
theorem r_reprD {d : PyData} (hd : Dp K H (.ref p) d) (h1 : d.showable = true) (h2 : d.hasDict = false) (h3 : d.depth ≤ 16) (h4 : d.shown.length ≤ sizeLine) (q : Q (.str d.shown) H) : rReprD K [.ref p] H Q := ⟨p, d, rfl, hd, h1, h2, h3, h4, q⟩
theorem r_eqD {y : V} {d e : PyData} (hd : Dp K H x d) (he : Dp K H y e) (h1 : SeqAt.shaped d = true) (h2 : SeqAt.shaped e = true) (q : Q (.bl (PyData.eqv d e)) H) : rEqD K x y H Q := ⟨d, e, hd, he, h1, h2, q⟩
theorem r_divmod (h : CDiv m k) (q : ∀ p H2, H p = none → Same H H2 → H2 p = some (.tup [.int (m / k), .int (m % k)]) → (∀ b, b ≠ p → H2 b = H b) → Q (.ref p) H2) :
    (fun xs H Q => ∃ i j, xs = [V.int i, V.int j] ∧ CDiv i j ∧ ∀ p, H p = none → Q (V.ref p) (upd H p (.tup [.int (i / j), .int (i % j)]))) [.int m, .int k] H Q :=
  ⟨m, k, rfl, h, fun p hp => q p _ hp (fun b o e => by rw [upd_ne (ne_of_none e hp)]; exact e) upd_same fun b hb => upd_ne hb⟩
theorem r_append {l : Addr} {y : V} (h : H l = some (.lst xs)) (hz : xs.length < sizeLine) (q : Q .non (upd H l (.lst (xs ++ [y])))) : rAppend (.ref l) [y] H Q := ⟨l, xs, y, rfl, rfl, h, hz, q⟩
theorem r_all {a : Addr} {bs : List Bool} (h : SqL K H a (bs.map V.bl)) (q : Q (.bl (bs.all id)) H) : rAll K [.ref a] H Q := ⟨a, bs, rfl, h, q⟩
theorem r_opOwn {C a : Addr} {Ts : List String} {sp : Sp} {E : XK} {y : V} (ha : InsAt C H a) (hy : (∃ b, y = .ref b ∧ InsAt C H b) ∨ ∃ T, plT y = some T ∧ T ∈ Ts) (q : sp [.ref a, y] H Q E) : rOpOwn C Ts sp E (.ref a) y H Q := ⟨a, rfl, ha, hy, q⟩
theorem r_neOwn {C a : Addr} {Ts : List String} {sp : Sp} {E : XK} {y : V} (ha : InsAt C H a) (hy : (∃ b, y = .ref b ∧ InsAt C H b) ∨ ∃ T, plT y = some T ∧ T ∈ Ts) (q : sp [.ref a, y] H (fun v H' => ∃ c, v = .bl c ∧ Q (.bl (!c)) H') E) : rNeOwn C Ts sp E (.ref a) y H Q := ⟨a, rfl, ha, hy, q⟩
theorem r_unOwn {C a : Addr} {sp : Sp} {E : XK} (ha : InsAt C H a) (q : sp [.ref a] H Q E) : rUnOwn C sp E (.ref a) H Q := ⟨a, rfl, ha, q⟩
theorem r_strOwn {C a : Addr} {sp : Sp} {E : XK} (ha : InsAt C H a) (q : sp [.ref a] H (fun v H' => ∃ z, v = .str z ∧ Q v H') E) : rStrOwn C sp E [.ref a] H Q := ⟨a, rfl, ha, q⟩
end

/-! the same, for what a lambda has been opened to -/
section
variable {K : PySem.W.Frag} {H : Hp} {m k : Int} {b : Bool} {p : Addr} {xs : List V}
theorem q_int {A : Int → Prop} {B : Bool → Prop} (q : A m) : (∃ i, [V.int m] = [V.int i] ∧ A i) ∨ ∃ k, [V.int m] = [V.bl k] ∧ B k := .inl ⟨m, rfl, q⟩
theorem q_intB {A : Int → Prop} {B : Bool → Prop} (q : B b) : (∃ i, [V.bl b] = [V.int i] ∧ A i) ∨ ∃ k, [V.bl b] = [V.bl k] ∧ B k := .inr ⟨b, rfl, q⟩
theorem q_1 {A : Int → Prop} (q : A m) : ∃ i, [V.int m] = [V.int i] ∧ A i := ⟨m, rfl, q⟩
theorem q_2 {A : Int → Int → Prop} (q : A m k) : ∃ i j, [V.int m, V.int k] = [V.int i, V.int j] ∧ A i j := ⟨m, k, rfl, q⟩
theorem q_len {A : Addr → List V → Prop} (h : SqL K H p xs) (q : A p xs) : ∃ p' ys, [V.ref p] = [V.ref p'] ∧ (SqL K H p' ys ∨ SqT K H p' ys) ∧ A p' ys := ⟨p, xs, rfl, .inl h, q⟩
theorem q_addS {z z' : Str} {A : Str → Str → Prop} (h : z.length + z'.length ≤ sizeLine) (q : A z z') : ∃ i j, V.str z = V.str i ∧ V.str z' = V.str j ∧ i.length + j.length ≤ sizeLine ∧ A i j := ⟨z, z', rfl, rfl, h, q⟩
theorem q_own {a C dx : Addr} {fs : List (Str × V)} {A : Addr → Prop} (h : H a = some (.ins C dx fs)) (q : A a) : ∃ a' dx fs, V.ref a = .ref a' ∧ H a' = some (.ins C dx fs) ∧ A a' := ⟨a, dx, fs, rfl, h, q⟩
end

/-! ### sizes -/
def Sz (n : Nat) (x : Int) : Prop := x.natAbs < 2 ^ n
theorem Sz.mono {n m : Nat} {x : Int} (h : Sz n x) (hm : n ≤ m) : Sz m x := Nat.lt_of_lt_of_le h (Nat.pow_le_pow_right (by decide) hm)
theorem Sz.log {n m : Nat} {x : Int} (h : Sz n x) (h0 : 0 < n) (hm : n ≤ m) : x.natAbs.log2 < m := Nat.lt_of_lt_of_le (PySem.Flt.log2_lt_of h0 h) hm
theorem Sz.mul {a b : Nat} {x y : Int} (hx : Sz a x) (hy : Sz b y) : Sz (a + b) (x * y) := wide_lt hx hy
theorem Sz.add {a b : Nat} {x y : Int} (hx : Sz a x) (hy : Sz b y) : Sz (max a b + 1) (x + y) := by
  have h1 := hx.mono (Nat.le_max_left a b)
  have h2 := hy.mono (Nat.le_max_right a b)
  unfold Sz at *
  rw [Nat.pow_succ]
  omega
theorem Sz.sub {a b : Nat} {x y : Int} (hx : Sz a x) (hy : Sz b y) : Sz (max a b + 1) (x - y) := by
  have h1 := hx.mono (Nat.le_max_left a b)
  have h2 := hy.mono (Nat.le_max_right a b)
  unfold Sz at *
  rw [Nat.pow_succ]
  omega
theorem Sz.neg {a : Nat} {x : Int} (hx : Sz a x) : Sz a (-x) := by
  unfold Sz at *
  omega
theorem Sz.cm {a b : Nat} {x y : Int} (hx : Sz a x) (hy : Sz b y) (h0 : 0 < a) (h1 : 0 < b) (h : a + b ≤ 1000000) : CMulW x y := wide_mul hx hy h0 h1 h
theorem Sz.le {a : Nat} {x y : Int} (hx : Sz a x) (h : y.natAbs ≤ x.natAbs) : Sz a y := Nat.lt_of_le_of_lt h hx

/-! ### lowest terms -/
/-- the divisor with the bottom's sign -/
def gd (t b : Int) : Int := if b < 0 then -((Nat.gcd t.natAbs b.natAbs : Nat) : Int) else ((Nat.gcd t.natAbs b.natAbs : Nat) : Int)
def low (t b : Int) : Int × Int := (t.fdiv (gd t b), b.fdiv (gd t b))
theorem gd_dvd (t b : Int) : gd t b ∣ t ∧ gd t b ∣ b := by
  have h1 : ((Nat.gcd t.natAbs b.natAbs : Nat) : Int) ∣ t := Int.ofNat_dvd_left.mpr (Nat.gcd_dvd_left _ _)
  have h2 : ((Nat.gcd t.natAbs b.natAbs : Nat) : Int) ∣ b := Int.ofNat_dvd_left.mpr (Nat.gcd_dvd_right _ _)
  unfold gd
  split
  · exact ⟨Int.neg_dvd.mpr h1, Int.neg_dvd.mpr h2⟩
  · exact ⟨h1, h2⟩
theorem gd_ne {t b : Int} (h : b ≠ 0) : gd t b ≠ 0 := by
  have h1 : 0 < Nat.gcd t.natAbs b.natAbs := Nat.gcd_pos_of_pos_right _ (by omega)
  unfold gd
  split <;> omega
theorem gd_abs (t b : Int) : (gd t b).natAbs = Nat.gcd t.natAbs b.natAbs := by
  unfold gd
  split <;> omega
theorem low_mul {t b : Int} (h : b ≠ 0) : (low t b).1 * gd t b = t ∧ (low t b).2 * gd t b = b := by
  obtain ⟨⟨c, hc⟩, ⟨d, hd⟩⟩ := gd_dvd t b
  have g0 := gd_ne (t := t) h
  unfold low
  constructor
  · show t.fdiv (gd t b) * gd t b = t
    have e : t.fdiv (gd t b) = c := by
      have z := Int.mul_fdiv_cancel_left c g0
      rw [← hc] at z
      exact z
    rw [e, Int.mul_comm]; exact hc.symm
  · show b.fdiv (gd t b) * gd t b = b
    have e : b.fdiv (gd t b) = d := by
      have z := Int.mul_fdiv_cancel_left d g0
      rw [← hd] at z
      exact z
    rw [e, Int.mul_comm]; exact hd.symm
theorem low_pos {t b : Int} (h : b ≠ 0) : 0 < (low t b).2 := by
  have ⟨_, h2⟩ := low_mul (t := t) h
  have hp : 0 < Nat.gcd t.natAbs b.natAbs := Nat.gcd_pos_of_pos_right _ (by omega)
  by_cases hb : b < 0
  · have hg : gd t b < 0 := by unfold gd; rw [if_pos hb]; omega
    by_cases q : 0 < (low t b).2
    · exact q
    · have := Int.mul_nonneg_of_nonpos_of_nonpos (Int.not_lt.mp q) (Int.le_of_lt hg)
      omega
  · have hg : 0 < gd t b := by unfold gd; rw [if_neg hb]; omega
    by_cases q : 0 < (low t b).2
    · exact q
    · have := Int.mul_nonpos_of_nonpos_of_nonneg (Int.not_lt.mp q) (Int.le_of_lt hg)
      omega
theorem low_gcd {t b : Int} (h : b ≠ 0) : Nat.gcd (low t b).1.natAbs (low t b).2.natAbs = 1 := by
  have ⟨h1, h2⟩ := low_mul (t := t) h
  have hp : 0 < Nat.gcd t.natAbs b.natAbs := Nat.gcd_pos_of_pos_right _ (by omega)
  have e1 : t.natAbs = (low t b).1.natAbs * Nat.gcd t.natAbs b.natAbs := by
    conv => lhs; rw [← h1]
    rw [Int.natAbs_mul, gd_abs]
  have e2 : b.natAbs = (low t b).2.natAbs * Nat.gcd t.natAbs b.natAbs := by
    conv => lhs; rw [← h2]
    rw [Int.natAbs_mul, gd_abs]
  have e3 : Nat.gcd t.natAbs b.natAbs = Nat.gcd (low t b).1.natAbs (low t b).2.natAbs * Nat.gcd t.natAbs b.natAbs := by
    rw [← Nat.gcd_mul_right, ← e1, ← e2]
  exact Nat.eq_of_mul_eq_mul_right hp (by rw [Nat.one_mul]; exact e3.symm)
/-- the two fractions are the same number: their lowest terms are the same -/
theorem low_cross {t b t' b' : Int} (h : b ≠ 0) (h' : b' ≠ 0) (e : t * b' = t' * b) : low t b = low t' b' := by
  have ⟨h1, h2⟩ := low_mul (t := t) h
  have ⟨h1', h2'⟩ := low_mul (t := t') h'
  have p := low_pos (t := t) h
  have p' := low_pos (t := t') h'
  have c := low_gcd (t := t) h
  have c' := low_gcd (t := t') h'
  have g0 := gd_ne (t := t) h
  have g0' := gd_ne (t := t') h'
  have key : (low t b).1 * (low t' b').2 = (low t' b').1 * (low t b).2 := by
    have e2 : ((low t b).1 * (low t' b').2) * (gd t b * gd t' b') = ((low t' b').1 * (low t b).2) * (gd t b * gd t' b') := by
      have a1 : ((low t b).1 * gd t b) * ((low t' b').2 * gd t' b') = ((low t' b').1 * gd t' b') * ((low t b).2 * gd t b) := by rw [h1, h2', h1', h2]; exact e
      have r1 : ((low t b).1 * (low t' b').2) * (gd t b * gd t' b') = ((low t b).1 * gd t b) * ((low t' b').2 * gd t' b') := by grind
      have r2 : ((low t' b').1 * (low t b).2) * (gd t b * gd t' b') = ((low t' b').1 * gd t' b') * ((low t b).2 * gd t b) := by grind
      rw [r1, r2, a1]
    exact Int.eq_of_mul_eq_mul_right (Int.mul_ne_zero g0 g0') e2
  have kn : (low t b).1.natAbs * (low t' b').2.natAbs = (low t' b').1.natAbs * (low t b).2.natAbs := by
    rw [← Int.natAbs_mul, ← Int.natAbs_mul, key]
  have d1 : (low t b).2.natAbs ∣ (low t' b').2.natAbs := by
    refine Nat.Coprime.dvd_of_dvd_mul_left (Nat.Coprime.symm c) ?_
    exact ⟨(low t' b').1.natAbs, by rw [kn, Nat.mul_comm]⟩
  have d2 : (low t' b').2.natAbs ∣ (low t b).2.natAbs := by
    refine Nat.Coprime.dvd_of_dvd_mul_left (Nat.Coprime.symm c') ?_
    exact ⟨(low t b).1.natAbs, by rw [← kn, Nat.mul_comm]⟩
  have en : (low t b).2 = (low t' b').2 := by
    have := Nat.dvd_antisymm d1 d2
    omega
  have em : (low t b).1 = (low t' b').1 := by
    rw [en] at key
    exact Int.eq_of_mul_eq_mul_right (by omega) key
  exact Prod.ext em en
theorem low_one (t : Int) : low t 1 = (t, 1) := by
  unfold low gd
  simp
theorem low_abs {t b : Int} (h : b ≠ 0) : (low t b).1.natAbs ≤ t.natAbs ∧ (low t b).2.natAbs ≤ b.natAbs := by
  have ⟨h1, h2⟩ := low_mul (t := t) h
  have hp : 0 < Nat.gcd t.natAbs b.natAbs := Nat.gcd_pos_of_pos_right _ (by omega)
  constructor
  · conv => rhs; rw [← h1]
    rw [Int.natAbs_mul, gd_abs]
    exact Nat.le_mul_of_pos_right _ hp
  · conv => rhs; rw [← h2]
    rw [Int.natAbs_mul, gd_abs]
    exact Nat.le_mul_of_pos_right _ hp
end LL
/-! LR3: names by their slots. -/
namespace LL
open PySem PySem.Spec PyProof.Rows L2
theorem r_v0 {v : V} {σ : L2.St} {H : Hp} {Q : VK} (q : Q v H) : tVar 0 (some v :: σ) H Q := ⟨v, rfl, q⟩
theorem r_s0 {y : Option V} {v : V} {σ : L2.St} {H : Hp} {Q : L2.St → Hp → Prop} (q : Q (some v :: σ) H) : gName 0 v (y :: σ) H Q := q
theorem r_v1 {x0 : Option V} {v : V} {σ : L2.St} {H : Hp} {Q : VK} (q : Q v H) : tVar 1 (x0 :: some v :: σ) H Q := ⟨v, rfl, q⟩
theorem r_s1 {x0 : Option V} {y : Option V} {v : V} {σ : L2.St} {H : Hp} {Q : L2.St → Hp → Prop} (q : Q (x0 :: some v :: σ) H) : gName 1 v (x0 :: y :: σ) H Q := q
theorem r_v2 {x0 x1 : Option V} {v : V} {σ : L2.St} {H : Hp} {Q : VK} (q : Q v H) : tVar 2 (x0 :: x1 :: some v :: σ) H Q := ⟨v, rfl, q⟩
theorem r_s2 {x0 x1 : Option V} {y : Option V} {v : V} {σ : L2.St} {H : Hp} {Q : L2.St → Hp → Prop} (q : Q (x0 :: x1 :: some v :: σ) H) : gName 2 v (x0 :: x1 :: y :: σ) H Q := q
theorem r_v3 {x0 x1 x2 : Option V} {v : V} {σ : L2.St} {H : Hp} {Q : VK} (q : Q v H) : tVar 3 (x0 :: x1 :: x2 :: some v :: σ) H Q := ⟨v, rfl, q⟩
theorem r_s3 {x0 x1 x2 : Option V} {y : Option V} {v : V} {σ : L2.St} {H : Hp} {Q : L2.St → Hp → Prop} (q : Q (x0 :: x1 :: x2 :: some v :: σ) H) : gName 3 v (x0 :: x1 :: x2 :: y :: σ) H Q := q
theorem r_v4 {x0 x1 x2 x3 : Option V} {v : V} {σ : L2.St} {H : Hp} {Q : VK} (q : Q v H) : tVar 4 (x0 :: x1 :: x2 :: x3 :: some v :: σ) H Q := ⟨v, rfl, q⟩
theorem r_s4 {x0 x1 x2 x3 : Option V} {y : Option V} {v : V} {σ : L2.St} {H : Hp} {Q : L2.St → Hp → Prop} (q : Q (x0 :: x1 :: x2 :: x3 :: some v :: σ) H) : gName 4 v (x0 :: x1 :: x2 :: x3 :: y :: σ) H Q := q
theorem r_v5 {x0 x1 x2 x3 x4 : Option V} {v : V} {σ : L2.St} {H : Hp} {Q : VK} (q : Q v H) : tVar 5 (x0 :: x1 :: x2 :: x3 :: x4 :: some v :: σ) H Q := ⟨v, rfl, q⟩
theorem r_s5 {x0 x1 x2 x3 x4 : Option V} {y : Option V} {v : V} {σ : L2.St} {H : Hp} {Q : L2.St → Hp → Prop} (q : Q (x0 :: x1 :: x2 :: x3 :: x4 :: some v :: σ) H) : gName 5 v (x0 :: x1 :: x2 :: x3 :: x4 :: y :: σ) H Q := q
theorem r_v6 {x0 x1 x2 x3 x4 x5 : Option V} {v : V} {σ : L2.St} {H : Hp} {Q : VK} (q : Q v H) : tVar 6 (x0 :: x1 :: x2 :: x3 :: x4 :: x5 :: some v :: σ) H Q := ⟨v, rfl, q⟩
theorem r_s6 {x0 x1 x2 x3 x4 x5 : Option V} {y : Option V} {v : V} {σ : L2.St} {H : Hp} {Q : L2.St → Hp → Prop} (q : Q (x0 :: x1 :: x2 :: x3 :: x4 :: x5 :: some v :: σ) H) : gName 6 v (x0 :: x1 :: x2 :: x3 :: x4 :: x5 :: y :: σ) H Q := q
theorem r_v7 {x0 x1 x2 x3 x4 x5 x6 : Option V} {v : V} {σ : L2.St} {H : Hp} {Q : VK} (q : Q v H) : tVar 7 (x0 :: x1 :: x2 :: x3 :: x4 :: x5 :: x6 :: some v :: σ) H Q := ⟨v, rfl, q⟩
theorem r_s7 {x0 x1 x2 x3 x4 x5 x6 : Option V} {y : Option V} {v : V} {σ : L2.St} {H : Hp} {Q : L2.St → Hp → Prop} (q : Q (x0 :: x1 :: x2 :: x3 :: x4 :: x5 :: x6 :: some v :: σ) H) : gName 7 v (x0 :: x1 :: x2 :: x3 :: x4 :: x5 :: x6 :: y :: σ) H Q := q
theorem r_v8 {x0 x1 x2 x3 x4 x5 x6 x7 : Option V} {v : V} {σ : L2.St} {H : Hp} {Q : VK} (q : Q v H) : tVar 8 (x0 :: x1 :: x2 :: x3 :: x4 :: x5 :: x6 :: x7 :: some v :: σ) H Q := ⟨v, rfl, q⟩
theorem r_s8 {x0 x1 x2 x3 x4 x5 x6 x7 : Option V} {y : Option V} {v : V} {σ : L2.St} {H : Hp} {Q : L2.St → Hp → Prop} (q : Q (x0 :: x1 :: x2 :: x3 :: x4 :: x5 :: x6 :: x7 :: some v :: σ) H) : gName 8 v (x0 :: x1 :: x2 :: x3 :: x4 :: x5 :: x6 :: x7 :: y :: σ) H Q := q
theorem r_v9 {x0 x1 x2 x3 x4 x5 x6 x7 x8 : Option V} {v : V} {σ : L2.St} {H : Hp} {Q : VK} (q : Q v H) : tVar 9 (x0 :: x1 :: x2 :: x3 :: x4 :: x5 :: x6 :: x7 :: x8 :: some v :: σ) H Q := ⟨v, rfl, q⟩
theorem r_s9 {x0 x1 x2 x3 x4 x5 x6 x7 x8 : Option V} {y : Option V} {v : V} {σ : L2.St} {H : Hp} {Q : L2.St → Hp → Prop} (q : Q (x0 :: x1 :: x2 :: x3 :: x4 :: x5 :: x6 :: x7 :: x8 :: some v :: σ) H) : gName 9 v (x0 :: x1 :: x2 :: x3 :: x4 :: x5 :: x6 :: x7 :: x8 :: y :: σ) H Q := q
theorem r_v10 {x0 x1 x2 x3 x4 x5 x6 x7 x8 x9 : Option V} {v : V} {σ : L2.St} {H : Hp} {Q : VK} (q : Q v H) : tVar 10 (x0 :: x1 :: x2 :: x3 :: x4 :: x5 :: x6 :: x7 :: x8 :: x9 :: some v :: σ) H Q := ⟨v, rfl, q⟩
theorem r_s10 {x0 x1 x2 x3 x4 x5 x6 x7 x8 x9 : Option V} {y : Option V} {v : V} {σ : L2.St} {H : Hp} {Q : L2.St → Hp → Prop} (q : Q (x0 :: x1 :: x2 :: x3 :: x4 :: x5 :: x6 :: x7 :: x8 :: x9 :: some v :: σ) H) : gName 10 v (x0 :: x1 :: x2 :: x3 :: x4 :: x5 :: x6 :: x7 :: x8 :: x9 :: y :: σ) H Q := q
theorem r_v11 {x0 x1 x2 x3 x4 x5 x6 x7 x8 x9 x10 : Option V} {v : V} {σ : L2.St} {H : Hp} {Q : VK} (q : Q v H) : tVar 11 (x0 :: x1 :: x2 :: x3 :: x4 :: x5 :: x6 :: x7 :: x8 :: x9 :: x10 :: some v :: σ) H Q := ⟨v, rfl, q⟩
theorem r_s11 {x0 x1 x2 x3 x4 x5 x6 x7 x8 x9 x10 : Option V} {y : Option V} {v : V} {σ : L2.St} {H : Hp} {Q : L2.St → Hp → Prop} (q : Q (x0 :: x1 :: x2 :: x3 :: x4 :: x5 :: x6 :: x7 :: x8 :: x9 :: x10 :: some v :: σ) H) : gName 11 v (x0 :: x1 :: x2 :: x3 :: x4 :: x5 :: x6 :: x7 :: x8 :: x9 :: x10 :: y :: σ) H Q := q
theorem r_v12 {x0 x1 x2 x3 x4 x5 x6 x7 x8 x9 x10 x11 : Option V} {v : V} {σ : L2.St} {H : Hp} {Q : VK} (q : Q v H) : tVar 12 (x0 :: x1 :: x2 :: x3 :: x4 :: x5 :: x6 :: x7 :: x8 :: x9 :: x10 :: x11 :: some v :: σ) H Q := ⟨v, rfl, q⟩
theorem r_s12 {x0 x1 x2 x3 x4 x5 x6 x7 x8 x9 x10 x11 : Option V} {y : Option V} {v : V} {σ : L2.St} {H : Hp} {Q : L2.St → Hp → Prop} (q : Q (x0 :: x1 :: x2 :: x3 :: x4 :: x5 :: x6 :: x7 :: x8 :: x9 :: x10 :: x11 :: some v :: σ) H) : gName 12 v (x0 :: x1 :: x2 :: x3 :: x4 :: x5 :: x6 :: x7 :: x8 :: x9 :: x10 :: x11 :: y :: σ) H Q := q
theorem r_v13 {x0 x1 x2 x3 x4 x5 x6 x7 x8 x9 x10 x11 x12 : Option V} {v : V} {σ : L2.St} {H : Hp} {Q : VK} (q : Q v H) : tVar 13 (x0 :: x1 :: x2 :: x3 :: x4 :: x5 :: x6 :: x7 :: x8 :: x9 :: x10 :: x11 :: x12 :: some v :: σ) H Q := ⟨v, rfl, q⟩
theorem r_s13 {x0 x1 x2 x3 x4 x5 x6 x7 x8 x9 x10 x11 x12 : Option V} {y : Option V} {v : V} {σ : L2.St} {H : Hp} {Q : L2.St → Hp → Prop} (q : Q (x0 :: x1 :: x2 :: x3 :: x4 :: x5 :: x6 :: x7 :: x8 :: x9 :: x10 :: x11 :: x12 :: some v :: σ) H) : gName 13 v (x0 :: x1 :: x2 :: x3 :: x4 :: x5 :: x6 :: x7 :: x8 :: x9 :: x10 :: x11 :: x12 :: y :: σ) H Q := q
theorem r_v14 {x0 x1 x2 x3 x4 x5 x6 x7 x8 x9 x10 x11 x12 x13 : Option V} {v : V} {σ : L2.St} {H : Hp} {Q : VK} (q : Q v H) : tVar 14 (x0 :: x1 :: x2 :: x3 :: x4 :: x5 :: x6 :: x7 :: x8 :: x9 :: x10 :: x11 :: x12 :: x13 :: some v :: σ) H Q := ⟨v, rfl, q⟩
theorem r_s14 {x0 x1 x2 x3 x4 x5 x6 x7 x8 x9 x10 x11 x12 x13 : Option V} {y : Option V} {v : V} {σ : L2.St} {H : Hp} {Q : L2.St → Hp → Prop} (q : Q (x0 :: x1 :: x2 :: x3 :: x4 :: x5 :: x6 :: x7 :: x8 :: x9 :: x10 :: x11 :: x12 :: x13 :: some v :: σ) H) : gName 14 v (x0 :: x1 :: x2 :: x3 :: x4 :: x5 :: x6 :: x7 :: x8 :: x9 :: x10 :: x11 :: x12 :: x13 :: y :: σ) H Q := q
theorem r_v15 {x0 x1 x2 x3 x4 x5 x6 x7 x8 x9 x10 x11 x12 x13 x14 : Option V} {v : V} {σ : L2.St} {H : Hp} {Q : VK} (q : Q v H) : tVar 15 (x0 :: x1 :: x2 :: x3 :: x4 :: x5 :: x6 :: x7 :: x8 :: x9 :: x10 :: x11 :: x12 :: x13 :: x14 :: some v :: σ) H Q := ⟨v, rfl, q⟩
theorem r_s15 {x0 x1 x2 x3 x4 x5 x6 x7 x8 x9 x10 x11 x12 x13 x14 : Option V} {y : Option V} {v : V} {σ : L2.St} {H : Hp} {Q : L2.St → Hp → Prop} (q : Q (x0 :: x1 :: x2 :: x3 :: x4 :: x5 :: x6 :: x7 :: x8 :: x9 :: x10 :: x11 :: x12 :: x13 :: x14 :: some v :: σ) H) : gName 15 v (x0 :: x1 :: x2 :: x3 :: x4 :: x5 :: x6 :: x7 :: x8 :: x9 :: x10 :: x11 :: x12 :: x13 :: x14 :: y :: σ) H Q := q
theorem r_v16 {x0 x1 x2 x3 x4 x5 x6 x7 x8 x9 x10 x11 x12 x13 x14 x15 : Option V} {v : V} {σ : L2.St} {H : Hp} {Q : VK} (q : Q v H) : tVar 16 (x0 :: x1 :: x2 :: x3 :: x4 :: x5 :: x6 :: x7 :: x8 :: x9 :: x10 :: x11 :: x12 :: x13 :: x14 :: x15 :: some v :: σ) H Q := ⟨v, rfl, q⟩
theorem r_s16 {x0 x1 x2 x3 x4 x5 x6 x7 x8 x9 x10 x11 x12 x13 x14 x15 : Option V} {y : Option V} {v : V} {σ : L2.St} {H : Hp} {Q : L2.St → Hp → Prop} (q : Q (x0 :: x1 :: x2 :: x3 :: x4 :: x5 :: x6 :: x7 :: x8 :: x9 :: x10 :: x11 :: x12 :: x13 :: x14 :: x15 :: some v :: σ) H) : gName 16 v (x0 :: x1 :: x2 :: x3 :: x4 :: x5 :: x6 :: x7 :: x8 :: x9 :: x10 :: x11 :: x12 :: x13 :: x14 :: x15 :: y :: σ) H Q := q
theorem r_v17 {x0 x1 x2 x3 x4 x5 x6 x7 x8 x9 x10 x11 x12 x13 x14 x15 x16 : Option V} {v : V} {σ : L2.St} {H : Hp} {Q : VK} (q : Q v H) : tVar 17 (x0 :: x1 :: x2 :: x3 :: x4 :: x5 :: x6 :: x7 :: x8 :: x9 :: x10 :: x11 :: x12 :: x13 :: x14 :: x15 :: x16 :: some v :: σ) H Q := ⟨v, rfl, q⟩
theorem r_s17 {x0 x1 x2 x3 x4 x5 x6 x7 x8 x9 x10 x11 x12 x13 x14 x15 x16 : Option V} {y : Option V} {v : V} {σ : L2.St} {H : Hp} {Q : L2.St → Hp → Prop} (q : Q (x0 :: x1 :: x2 :: x3 :: x4 :: x5 :: x6 :: x7 :: x8 :: x9 :: x10 :: x11 :: x12 :: x13 :: x14 :: x15 :: x16 :: some v :: σ) H) : gName 17 v (x0 :: x1 :: x2 :: x3 :: x4 :: x5 :: x6 :: x7 :: x8 :: x9 :: x10 :: x11 :: x12 :: x13 :: x14 :: x15 :: x16 :: y :: σ) H Q := q
theorem r_v18 {x0 x1 x2 x3 x4 x5 x6 x7 x8 x9 x10 x11 x12 x13 x14 x15 x16 x17 : Option V} {v : V} {σ : L2.St} {H : Hp} {Q : VK} (q : Q v H) : tVar 18 (x0 :: x1 :: x2 :: x3 :: x4 :: x5 :: x6 :: x7 :: x8 :: x9 :: x10 :: x11 :: x12 :: x13 :: x14 :: x15 :: x16 :: x17 :: some v :: σ) H Q := ⟨v, rfl, q⟩
theorem r_s18 {x0 x1 x2 x3 x4 x5 x6 x7 x8 x9 x10 x11 x12 x13 x14 x15 x16 x17 : Option V} {y : Option V} {v : V} {σ : L2.St} {H : Hp} {Q : L2.St → Hp → Prop} (q : Q (x0 :: x1 :: x2 :: x3 :: x4 :: x5 :: x6 :: x7 :: x8 :: x9 :: x10 :: x11 :: x12 :: x13 :: x14 :: x15 :: x16 :: x17 :: some v :: σ) H) : gName 18 v (x0 :: x1 :: x2 :: x3 :: x4 :: x5 :: x6 :: x7 :: x8 :: x9 :: x10 :: x11 :: x12 :: x13 :: x14 :: x15 :: x16 :: x17 :: y :: σ) H Q := q
theorem r_v19 {x0 x1 x2 x3 x4 x5 x6 x7 x8 x9 x10 x11 x12 x13 x14 x15 x16 x17 x18 : Option V} {v : V} {σ : L2.St} {H : Hp} {Q : VK} (q : Q v H) : tVar 19 (x0 :: x1 :: x2 :: x3 :: x4 :: x5 :: x6 :: x7 :: x8 :: x9 :: x10 :: x11 :: x12 :: x13 :: x14 :: x15 :: x16 :: x17 :: x18 :: some v :: σ) H Q := ⟨v, rfl, q⟩
theorem r_s19 {x0 x1 x2 x3 x4 x5 x6 x7 x8 x9 x10 x11 x12 x13 x14 x15 x16 x17 x18 : Option V} {y : Option V} {v : V} {σ : L2.St} {H : Hp} {Q : L2.St → Hp → Prop} (q : Q (x0 :: x1 :: x2 :: x3 :: x4 :: x5 :: x6 :: x7 :: x8 :: x9 :: x10 :: x11 :: x12 :: x13 :: x14 :: x15 :: x16 :: x17 :: x18 :: some v :: σ) H) : gName 19 v (x0 :: x1 :: x2 :: x3 :: x4 :: x5 :: x6 :: x7 :: x8 :: x9 :: x10 :: x11 :: x12 :: x13 :: x14 :: x15 :: x16 :: x17 :: x18 :: y :: σ) H Q := q
theorem r_v20 {x0 x1 x2 x3 x4 x5 x6 x7 x8 x9 x10 x11 x12 x13 x14 x15 x16 x17 x18 x19 : Option V} {v : V} {σ : L2.St} {H : Hp} {Q : VK} (q : Q v H) : tVar 20 (x0 :: x1 :: x2 :: x3 :: x4 :: x5 :: x6 :: x7 :: x8 :: x9 :: x10 :: x11 :: x12 :: x13 :: x14 :: x15 :: x16 :: x17 :: x18 :: x19 :: some v :: σ) H Q := ⟨v, rfl, q⟩
theorem r_s20 {x0 x1 x2 x3 x4 x5 x6 x7 x8 x9 x10 x11 x12 x13 x14 x15 x16 x17 x18 x19 : Option V} {y : Option V} {v : V} {σ : L2.St} {H : Hp} {Q : L2.St → Hp → Prop} (q : Q (x0 :: x1 :: x2 :: x3 :: x4 :: x5 :: x6 :: x7 :: x8 :: x9 :: x10 :: x11 :: x12 :: x13 :: x14 :: x15 :: x16 :: x17 :: x18 :: x19 :: some v :: σ) H) : gName 20 v (x0 :: x1 :: x2 :: x3 :: x4 :: x5 :: x6 :: x7 :: x8 :: x9 :: x10 :: x11 :: x12 :: x13 :: x14 :: x15 :: x16 :: x17 :: x18 :: x19 :: y :: σ) H Q := q
theorem r_v21 {x0 x1 x2 x3 x4 x5 x6 x7 x8 x9 x10 x11 x12 x13 x14 x15 x16 x17 x18 x19 x20 : Option V} {v : V} {σ : L2.St} {H : Hp} {Q : VK} (q : Q v H) : tVar 21 (x0 :: x1 :: x2 :: x3 :: x4 :: x5 :: x6 :: x7 :: x8 :: x9 :: x10 :: x11 :: x12 :: x13 :: x14 :: x15 :: x16 :: x17 :: x18 :: x19 :: x20 :: some v :: σ) H Q := ⟨v, rfl, q⟩
theorem r_s21 {x0 x1 x2 x3 x4 x5 x6 x7 x8 x9 x10 x11 x12 x13 x14 x15 x16 x17 x18 x19 x20 : Option V} {y : Option V} {v : V} {σ : L2.St} {H : Hp} {Q : L2.St → Hp → Prop} (q : Q (x0 :: x1 :: x2 :: x3 :: x4 :: x5 :: x6 :: x7 :: x8 :: x9 :: x10 :: x11 :: x12 :: x13 :: x14 :: x15 :: x16 :: x17 :: x18 :: x19 :: x20 :: some v :: σ) H) : gName 21 v (x0 :: x1 :: x2 :: x3 :: x4 :: x5 :: x6 :: x7 :: x8 :: x9 :: x10 :: x11 :: x12 :: x13 :: x14 :: x15 :: x16 :: x17 :: x18 :: x19 :: x20 :: y :: σ) H Q := q
theorem r_v22 {x0 x1 x2 x3 x4 x5 x6 x7 x8 x9 x10 x11 x12 x13 x14 x15 x16 x17 x18 x19 x20 x21 : Option V} {v : V} {σ : L2.St} {H : Hp} {Q : VK} (q : Q v H) : tVar 22 (x0 :: x1 :: x2 :: x3 :: x4 :: x5 :: x6 :: x7 :: x8 :: x9 :: x10 :: x11 :: x12 :: x13 :: x14 :: x15 :: x16 :: x17 :: x18 :: x19 :: x20 :: x21 :: some v :: σ) H Q := ⟨v, rfl, q⟩
theorem r_s22 {x0 x1 x2 x3 x4 x5 x6 x7 x8 x9 x10 x11 x12 x13 x14 x15 x16 x17 x18 x19 x20 x21 : Option V} {y : Option V} {v : V} {σ : L2.St} {H : Hp} {Q : L2.St → Hp → Prop} (q : Q (x0 :: x1 :: x2 :: x3 :: x4 :: x5 :: x6 :: x7 :: x8 :: x9 :: x10 :: x11 :: x12 :: x13 :: x14 :: x15 :: x16 :: x17 :: x18 :: x19 :: x20 :: x21 :: some v :: σ) H) : gName 22 v (x0 :: x1 :: x2 :: x3 :: x4 :: x5 :: x6 :: x7 :: x8 :: x9 :: x10 :: x11 :: x12 :: x13 :: x14 :: x15 :: x16 :: x17 :: x18 :: x19 :: x20 :: x21 :: y :: σ) H Q := q
theorem r_v23 {x0 x1 x2 x3 x4 x5 x6 x7 x8 x9 x10 x11 x12 x13 x14 x15 x16 x17 x18 x19 x20 x21 x22 : Option V} {v : V} {σ : L2.St} {H : Hp} {Q : VK} (q : Q v H) : tVar 23 (x0 :: x1 :: x2 :: x3 :: x4 :: x5 :: x6 :: x7 :: x8 :: x9 :: x10 :: x11 :: x12 :: x13 :: x14 :: x15 :: x16 :: x17 :: x18 :: x19 :: x20 :: x21 :: x22 :: some v :: σ) H Q := ⟨v, rfl, q⟩
theorem r_s23 {x0 x1 x2 x3 x4 x5 x6 x7 x8 x9 x10 x11 x12 x13 x14 x15 x16 x17 x18 x19 x20 x21 x22 : Option V} {y : Option V} {v : V} {σ : L2.St} {H : Hp} {Q : L2.St → Hp → Prop} (q : Q (x0 :: x1 :: x2 :: x3 :: x4 :: x5 :: x6 :: x7 :: x8 :: x9 :: x10 :: x11 :: x12 :: x13 :: x14 :: x15 :: x16 :: x17 :: x18 :: x19 :: x20 :: x21 :: x22 :: some v :: σ) H) : gName 23 v (x0 :: x1 :: x2 :: x3 :: x4 :: x5 :: x6 :: x7 :: x8 :: x9 :: x10 :: x11 :: x12 :: x13 :: x14 :: x15 :: x16 :: x17 :: x18 :: x19 :: x20 :: x21 :: x22 :: y :: σ) H Q := q
theorem r_v24 {x0 x1 x2 x3 x4 x5 x6 x7 x8 x9 x10 x11 x12 x13 x14 x15 x16 x17 x18 x19 x20 x21 x22 x23 : Option V} {v : V} {σ : L2.St} {H : Hp} {Q : VK} (q : Q v H) : tVar 24 (x0 :: x1 :: x2 :: x3 :: x4 :: x5 :: x6 :: x7 :: x8 :: x9 :: x10 :: x11 :: x12 :: x13 :: x14 :: x15 :: x16 :: x17 :: x18 :: x19 :: x20 :: x21 :: x22 :: x23 :: some v :: σ) H Q := ⟨v, rfl, q⟩
theorem r_s24 {x0 x1 x2 x3 x4 x5 x6 x7 x8 x9 x10 x11 x12 x13 x14 x15 x16 x17 x18 x19 x20 x21 x22 x23 : Option V} {y : Option V} {v : V} {σ : L2.St} {H : Hp} {Q : L2.St → Hp → Prop} (q : Q (x0 :: x1 :: x2 :: x3 :: x4 :: x5 :: x6 :: x7 :: x8 :: x9 :: x10 :: x11 :: x12 :: x13 :: x14 :: x15 :: x16 :: x17 :: x18 :: x19 :: x20 :: x21 :: x22 :: x23 :: some v :: σ) H) : gName 24 v (x0 :: x1 :: x2 :: x3 :: x4 :: x5 :: x6 :: x7 :: x8 :: x9 :: x10 :: x11 :: x12 :: x13 :: x14 :: x15 :: x16 :: x17 :: x18 :: x19 :: x20 :: x21 :: x22 :: x23 :: y :: σ) H Q := q
theorem r_v25 {x0 x1 x2 x3 x4 x5 x6 x7 x8 x9 x10 x11 x12 x13 x14 x15 x16 x17 x18 x19 x20 x21 x22 x23 x24 : Option V} {v : V} {σ : L2.St} {H : Hp} {Q : VK} (q : Q v H) : tVar 25 (x0 :: x1 :: x2 :: x3 :: x4 :: x5 :: x6 :: x7 :: x8 :: x9 :: x10 :: x11 :: x12 :: x13 :: x14 :: x15 :: x16 :: x17 :: x18 :: x19 :: x20 :: x21 :: x22 :: x23 :: x24 :: some v :: σ) H Q := ⟨v, rfl, q⟩
theorem r_s25 {x0 x1 x2 x3 x4 x5 x6 x7 x8 x9 x10 x11 x12 x13 x14 x15 x16 x17 x18 x19 x20 x21 x22 x23 x24 : Option V} {y : Option V} {v : V} {σ : L2.St} {H : Hp} {Q : L2.St → Hp → Prop} (q : Q (x0 :: x1 :: x2 :: x3 :: x4 :: x5 :: x6 :: x7 :: x8 :: x9 :: x10 :: x11 :: x12 :: x13 :: x14 :: x15 :: x16 :: x17 :: x18 :: x19 :: x20 :: x21 :: x22 :: x23 :: x24 :: some v :: σ) H) : gName 25 v (x0 :: x1 :: x2 :: x3 :: x4 :: x5 :: x6 :: x7 :: x8 :: x9 :: x10 :: x11 :: x12 :: x13 :: x14 :: x15 :: x16 :: x17 :: x18 :: x19 :: x20 :: x21 :: x22 :: x23 :: x24 :: y :: σ) H Q := q
theorem r_nT {A B : Prop} (q : B) : if (!true) = true then A else B := by
  rw [Bool.not_true, if_neg Bool.false_ne_true]; exact q
theorem r_nF {A B : Prop} (q : A) : if (!false) = true then A else B := by
  rw [Bool.not_false, if_pos rfl]; exact q
/-- a field read of a known instance -/
theorem r_fldI {K : PySem.W.Frag} {H : Hp} {Q : VK} {a C dx : Addr} {fs : List (Str × V)} {f : Str} {v : V} (h : H a = some (.ins C dx fs)) (c : Cls K C) (na : NoAttr K C f) (e : fs.lookup f = some v) (q : Q v H) :
    ∃ a' C dx fs v, V.ref a = .ref a' ∧ H a' = some (.ins C dx fs) ∧ Cls K C ∧ NoAttr K C f ∧ fs.lookup f = some v ∧ Q v H := ⟨a, C, dx, fs, v, rfl, h, c, na, e, q⟩
end LL
/-! LR4: loops, comprehensions; texts and what repr of lists shows. -/
namespace LL
open PySem PySem.Spec PyProof.Rows L2
section
variable {σ : L2.St} {H H1 : Hp} {Q : VK} {ta tl : TA} {te tx : TE} {g : TG} {tb : TS} {n : L2.St → Hp → Prop} {r : VK} {b c : L2.St → Hp → Prop} {tt : TT} {is : List Nat} {K : PySem.W.Frag} {wi : TI} {R : It → Hp → Prop} {D : Addr} {Qd : Hp → Prop}
def ForK (g : TG) (tb : TS) (n : L2.St → Hp → Prop) (r : VK) (σ : L2.St) (J : It) (H1 : Hp) : Prop := ∃ W : Nat → Nat → L2.St → Hp → Prop, (∃ m, W 0 m σ H1) ∧ ∀ i m σ H, W i m σ H →
  (J.stop i H ∧ n σ H) ∨ (J.go i H ∧ ∃ N : L2.St → Hp → Prop, (∀ σ' H', N σ' H' → ∃ m', m' < m ∧ W (i + 1) m' σ' H') ∧ ∀ x H', J.yld i H x H' → g x σ H' fun σ2 H2 => tb { nx := N, rt := r, bk := n, ct := N } σ2 H2)
theorem r_for (q : wi σ H fun J H1 => ForK g tb n r σ J H1) : tFor wi g tb { nx := n, rt := r, bk := b, ct := c } σ H := q
theorem r_rng1 (q : ta σ H fun vs H1 => ∃ j : Int, vs = [.int j] ∧ -(2 ^ 62) ≤ j ∧ j < 2 ^ 62 ∧ R (Itr 0 j.toNat) H1) : iRng1 ta σ H R := q
theorem r_itl (q : tx σ H fun x H1 => ∃ a, x = .ref a ∧ (∃ xs, SqL K H1 a xs) ∧ R (Itl K a) H1) : iList K tx σ H R := q
theorem r_zip (q : ta σ H fun vs H1 => ∃ a b xs ys, vs = [.ref a, .ref b] ∧ SqL K H1 a xs ∧ SqL K H1 b ys ∧ R (Itz K a b) H1) : iZip K ta σ H R := q
theorem u_range {k : Nat} (Pv : Nat → L2.St → Hp → Prop) (h0 : Pv 0 σ H) (hs : ∀ i σ H, i < k → Pv i σ H → g (.int (i : Nat)) σ H fun σ2 H2 => tb { nx := Pv (i + 1), rt := r, bk := n, ct := Pv (i + 1) } σ2 H2) (hd : ∀ σ H, Pv k σ H → n σ H) : ForK g tb n r σ (Itr 0 k) H :=
  for_range (D := { nx := n, rt := r }) Pv h0 (fun i σ H hi p => by rw [Int.zero_add]; exact hs i σ H hi p) hd
def LcK (g : TG) (tt : TT) (te : TE) (is : List Nat) (σ : L2.St) (Q : VK) (J : It) (H1 : Hp) : Prop := ∀ D, H1 D = none → ∃ W : Nat → Nat → Hp → Prop, (∃ m, W 0 m (upd H1 D (.lst []))) ∧ ∀ i m H, W i m H →
  (J.stop i H ∧ Q (.ref D) H) ∨ (J.go i H ∧ ∃ Nx : Hp → Prop, (∀ H', Nx H' → ∃ m', m' < m ∧ W (i + 1) m' H') ∧ ∀ x H', J.yld i H x H' → g x (wipe σ is) H' fun σ2 H2 => wipe σ2 is = wipe σ is ∧ tt σ2 H2 fun b H3 =>
    if b = true then te σ2 H3 fun y H4 => ∃ acc, H4 D = some (.lst acc) ∧ acc.length < sizeLine ∧ Nx (upd H4 D (.lst (acc ++ [y]))) else Nx H3)
theorem r_lc (q : wi σ H fun J H1 => LcK g tt te is σ Q J H1) : tLc wi g tt te is σ H Q := q
/-- what the new list grows by -/
def Grow (D : Addr) (Nx : Hp → Prop) : VK := fun y H4 => ∃ acc, H4 D = some (.lst acc) ∧ acc.length < sizeLine ∧ Nx (upd H4 D (.lst (acc ++ [y])))
theorem u_lcR {k : Nat} (q : ∀ D H0, H1 D = none → Same H1 H0 → H0 D = some (.lst []) → (∀ b, b ≠ D → H0 b = H1 b) → ∃ Pv : Nat → Hp → Prop, Pv 0 H0 ∧ (∀ i H, i < k → Pv i H → g (.int (i : Nat)) (wipe σ is) H fun σ2 H2 => wipe σ2 is = wipe σ is ∧ te σ2 H2 (Grow D (Pv (i + 1)))) ∧ ∀ H, Pv k H → Q (.ref D) H) : LcK g tYes te is σ Q (Itr 0 k) H1 := by
  intro D hD
  obtain ⟨Pv, h0, hs, hd⟩ := q D _ hD (fun b o e => by rw [upd_ne (ne_of_none e hD)]; exact e) upd_same fun b hb => upd_ne hb
  refine lc_range (lo := 0) Pv h0 (fun i H hi p => ?_) hd
  rw [Int.zero_add]
  exact hs i H hi p
theorem u_lcL {a : Addr} {xs : List V} (q : ∀ D H0, H1 D = none → Same H1 H0 → H0 D = some (.lst []) → (∀ b, b ≠ D → H0 b = H1 b) → ∃ Pv : Nat → Hp → Prop, Pv 0 H0 ∧ (∀ i H, i ≤ xs.length → Pv i H → SqL K H a xs) ∧ (∀ i x H, xs[i]? = some x → Pv i H → g x (wipe σ is) H fun σ2 H2 => wipe σ2 is = wipe σ is ∧ te σ2 H2 (Grow D (Pv (i + 1)))) ∧ ∀ H, Pv xs.length H → Q (.ref D) H) : LcK g tYes te is σ Q (Itl K a) H1 := by
  intro D hD
  obtain ⟨Pv, h0, hl, hs, hd⟩ := q D _ hD (fun b o e => by rw [upd_ne (ne_of_none e hD)]; exact e) upd_same fun b hb => upd_ne hb
  exact lc_list Pv h0 hl (fun i x H hx p => hs i x H hx p) hd
theorem u_lcZ {a b : Addr} {xs ys : List V} (q : ∀ D H0, H1 D = none → Same H1 H0 → H0 D = some (.lst []) → (∀ b, b ≠ D → H0 b = H1 b) → ∃ Pv : Nat → Hp → Prop, Pv 0 H0 ∧ (∀ i H, i ≤ xs.length → Pv i H → SqL K H a xs ∧ SqL K H b ys) ∧ xs.length = ys.length ∧
    (∀ i x y T H H', xs[i]? = some x → ys[i]? = some y → Pv i H → H T = none → Same H H' → H' T = some (.tup [x, y]) → (∀ b, b ≠ T → H' b = H b) → g (.ref T) (wipe σ is) H' fun σ2 H2 => wipe σ2 is = wipe σ is ∧ te σ2 H2 (Grow D (Pv (i + 1)))) ∧ ∀ H, Pv xs.length H → Q (.ref D) H) : LcK g tYes te is σ Q (Itz K a b) H1 := by
  intro D hD
  obtain ⟨Pv, h0, hl, hlen, hs, hd⟩ := q D _ hD (fun b o e => by rw [upd_ne (ne_of_none e hD)]; exact e) upd_same fun b hb => upd_ne hb
  refine ⟨fun i m H => m = xs.length - i ∧ i ≤ xs.length ∧ Pv i H, ⟨xs.length, by simp, Nat.zero_le _, h0⟩, ?_⟩
  rintro i m H ⟨rfl, hi, p⟩
  obtain ⟨s1, s2⟩ := hl i H hi p
  by_cases hlt : i < xs.length
  · have hlt2 : i < ys.length := hlen ▸ hlt
    refine .inr ⟨⟨xs, ys, xs[i], ys[i], s1, s2, by simp [hlt], by simp [hlt2]⟩, Pv (i + 1), fun H' p' => ⟨xs.length - (i + 1), by omega, rfl, hlt, p'⟩, fun v H' y => ?_⟩
    obtain ⟨T, x, y, rfl, hT, rfl, e1, e2⟩ := y
    exact hs i x y T H _ (e1 xs s1) (e2 ys s2) p hT (fun b o e => by rw [upd_ne (ne_of_none e hT)]; exact e) upd_same fun b hb => upd_ne hb
  · have e : i = xs.length := by omega
    subst e
    exact .inl ⟨⟨xs, ys, s1, s2, .inl (Nat.le_refl _)⟩, hd H p⟩
theorem r_grow {acc : List V} {y : V} {Nx : Hp → Prop} (h : H D = some (.lst acc)) (hz : acc.length < 100000) (q : Nx (upd H D (.lst (acc ++ [y])))) : Grow D Nx y H := ⟨acc, h, Nat.lt_of_lt_of_le hz (by decide), q⟩
theorem r_while {tc : TT} (q : ∃ W : Nat → L2.St → Hp → Prop, (∃ m, W m σ H) ∧ ∀ m σ H, W m σ H → tc σ H fun bb H1 => if bb = true then ∃ N : L2.St → Hp → Prop, (∀ σ' H', N σ' H' → ∃ m', m' < m ∧ W m' σ' H') ∧ tb { nx := N, rt := r, bk := n, ct := N } σ H1 else n σ H1) : tWhile tc tb { nx := n, rt := r, bk := b, ct := c } σ H := q
end

section
variable {X : Cx} {K' : PySem.W.Frag} {pos : Pos}
/-! in a block of a comprehension what the library knows must be named -/
theorem pg_tupK {es : List Expr} {k : Nat} {t : TGs} {n : Nat} (hc : X.calm = true) (h : PGs X es t) (hn : (assignEach es X.env).length = n := by rfl) (hst : (assignEach es X.env).findIdx? (·.1) = none := by rfl) (hK : X.K = K' := by rfl) : PG X (.Tuple es k pos) (gTup K' n t) := by
  subst hK
  exact pg_tup hc h hn hst
theorem ix_listK (hK : X.K = K' := by rfl) : IxR X (rIxL K') := by
  subst hK
  exact ix_list
theorem ix_tupK (hK : X.K = K' := by rfl) : IxR X (rIxT K') := by
  subst hK
  exact ix_tup
end

/-! ### texts -/
def Ok8 (x : Str) : Prop := ∀ c ∈ x.cps.toList, c < 16 ^ 8
theorem ok8_of (s : String) : Ok8 (Str.ofString s) := by
  intro c hc
  rw [signs_ofString] at hc
  obtain ⟨d, _, rfl⟩ := List.mem_map.mp hc
  exact d.val.toNat_lt
theorem Ok8.app {x y : Str} (hx : Ok8 x) (hy : Ok8 y) : Ok8 (x ++ y) := by
  intro c hc
  have e : (x ++ y).cps.toList = x.cps.toList ++ y.cps.toList := Array.toList_append
  rw [e] at hc
  rcases List.mem_append.mp hc with h | h
  · exact hx c h
  · exact hy c h
theorem ok8_nil : Ok8 Str.empty := fun c hc => by cases hc
theorem Ok8.len {x : Str} (h : Ok8 x) : (reprText x).length ≤ 10 * x.length + 2 := StrLaws.reprText_len x h
theorem nil_app (x : Str) : Str.empty ++ x = x := by
  have e : (Str.empty ++ x).cps = Str.empty.cps ++ x.cps := rfl
  cases x with
  | mk c =>
    show Str.mk (#[] ++ c) = _
    rw [Array.empty_append]
end LL
/-! LX1: several except clauses with names; defs that let exceptions out, with guards; isinstance of a caught error; defs whose code objects have tables. -/
namespace LL
open PySem PySem.Spec PyProof.Rows L2

/-! ### except x as n, several clauses -/
/-- a clause: the class, the slot of its name, its suite's reading -/
structure Cl where
  c : Value
  i : Nat
  ts : Addr → Value → Option Addr → TS
/-- behind a suite the name's slot is empty -/
def endsOff (i : Nat) (D : Ends) : Ends := ⟨fun τ G => D.nx (τ.set i none) G, D.rt, fun τ G => D.bk (τ.set i none) G, fun τ G => D.ct (τ.set i none) G⟩
def wCls (K : PySem.W.Frag) (Wo : WX) (D : Ends) : List Cl → WX
  | [] => Wo
  | q :: r => fun cls d σ H => ∃ yes, PySem.W.exmOne K cls q.c = some yes ∧ (yes = true → ∀ a, H a = none → q.ts a cls d (endsOff q.i D) (σ.set q.i (some (.ref a))) H) ∧ (yes = false → wCls K Wo D r cls d σ H)
inductive HdAs (X : Cx) : List ExceptHandler → List Cl → Prop
  | nil : HdAs X [] []
  | cons {x n : Str} {q : Cl} {b0 : Stmt} {su : List Stmt} {p1 p2 : Pos} {hds : List ExceptHandler} {l : List Cl} (hi : X.N[q.i]? = some n) (hl : X.env.kindOf n = some .local) (hc : Names X x q.c)
      (hs : ∀ (a : Addr) (oe : Obj) (cls : Value) (d : Option Addr) (pn : List (Addr × Obj)), Zc cls d oe → (∃ vs, oe.data = .fields vs) → PSs (X.suite a ((a, oe) :: pn)) (b0 :: su) (q.ts a cls d)) (r : HdAs X hds l) :
      HdAs X (.ExceptHandler (some (.Name x p1)) (some n) (b0 :: su) p2 :: hds) (q :: l)
section
variable {X : Cx} {body : List Stmt} {h0 : ExceptHandler} {hds : List ExceptHandler} {l : List Cl} {pos : Pos} {tb : WX → TS} {Wo : WX}
theorem ps_tryAs (stk : X.stack = X.env :: X.outer) (frm : X.env.frame = some X.env.locals) (nd : X.N.Nodup) (tk : Takes X Wo)
    (hb : ∀ (W : WX) (pn : List (Addr × Obj)) (xe : Value → Shared → Prop), Takes (X.tr pn xe) W → PassesOwn (model X.prog X.w) X.A X.env xe → PSs (X.tr pn xe) body (tb W))
    (hh : HdAs X (h0 :: hds) l) : PS X (.Try body (h0 :: hds) [] [] pos) (fun D σ H => tb (wCls X.K Wo D l) D σ H) := by
  constructor
  intro pins s σ H D I want
  have good := I.ok
  have fr : X.A.frames = some (X.env :: X.outer) := by rw [good.frames, stk]
  apply wpAny_Try_except
  let catch_ : Value → Shared → Prop := fun ev t1 => wpAny (model X.prog X.w) X.A (noteFrame ev X.env) (fun _ t2 => wpAny (model X.prog X.w) X.A (setFlight ev none) (fun _ t3 => wpAny (model X.prog X.w) X.A (handleBy ev X.env (h0 :: hds)) (SP X pins D) X.xe t3) X.xe t2) X.xe t1
  refine wpAny_mono ((hb (wCls X.K Wo D l) (X.pn ++ pins) catch_ (fun u t air => ?_) PassesOwn.looking).run [] s σ H D (I.toTry _) want) (fun f t1 went => ?_) (fun ev t1 z => z)
  · obtain ⟨a, B, sI, pins', σ', H', cls, d, rfl, J0, ground, upto, sky, fresh, os, bare, wish⟩ := air
    have J : Inv X pins σ' H' sI := J0.ofTry good
    have sky2 : Sky B (X.env :: X.outer) a (Zc cls d) X.env.locals t.heap := by rw [← stk]; exact sky
    show wpAny (model X.prog X.w) X.A (noteFrame (.ref a) X.env) _ _ _
    refine Sky.land Zc.steady fr frm sky2 fun h3 fly up3 => ?_
    have J3 : Inv X pins σ' H' { t with heap := h3 } := J.landed ground fly.1 (upto.trans up3) os bare
    obtain ⟨oe, vs, e3, z3, d3⟩ := fly.there
    have off : a ∉ frs (X.env :: X.outer) := fun hm => by
      obtain ⟨_, o', e', nf⟩ := fly.2.2.1.mem hm
      rw [e3] at e'
      cases e'
      exact nf _ d3
    have nL : a ≠ X.env.locals := fun z => off (List.mem_filterMap.mpr ⟨X.env, List.mem_cons_self, by rw [frm, z]⟩)
    have nF : a ∉ X.fs := fun hm => by
      obtain ⟨e, he, q⟩ := List.mem_filterMap.mp hm
      exact off (List.mem_filterMap.mpr ⟨e, List.mem_cons_of_mem _ he, q⟩)
    have S3 := J3.suite e3 d3 fresh nL nF
    have walk : ∀ {hs' : List ExceptHandler} {l' : List Cl}, HdAs X hs' l' → wCls X.K Wo D l' cls d σ' H' → wpAny (model X.prog X.w) X.A (handleBy (.ref a) X.env hs') (SP X pins D) X.xe { t with heap := h3 } := by
      intro hs' l' hk
      induction hk with
      | nil =>
        intro wout
        apply wpAny_handleBy_nil
        obtain ⟨_, _, _, oe', vs', T, oT, ts', a1, a2, a3, a4, a5⟩ := id fly
        unfold PySem.passOn
        refine wpAny_bind (wpAny_field a1 a3 a4 ?_)
        rw [if_neg (by simp : ¬ ((Value.ref T == Value.none) = true))]
        have fin : wpAny (model X.prog X.w) X.A (setFlight (.ref a) X.env.frame) (fun _ t4 => wpAny (model X.prog X.w) X.A (throw (.ref a) : Sem Flow) (SP X pins D) X.xe t4) X.xe { t with heap := h3 } := by
          rw [frm]
          refine HandSPX.setFlight_upZ fly fun h4 held up4 => wpAny_throw (tk _ _ ⟨a, B, sI, pins, σ', H', cls, d, rfl, J, ground, (upto.trans up3).trans up4, .inr (.inr ?_), fresh, os, bare, wout⟩)
          rw [stk]
          exact held
        first
          | exact wpAny_bind (wpAny_pure (wpAny_bind fin))
          | exact wpAny_bind fin
      | @cons x n q b0 su p1 p2 hds2 l2 hi hl hc hs r ih =>
        intro ⟨yes, e1, onYes, onNo⟩
        refine wpAny_handleBy_cons (codeAny_handlers_test ?_) (fun z => nomatch z)
        have tyA : PySem.W.Looks (model X.prog X.w) h3 (typeOf (.ref a)) cls := fun A' Q' E' s' k' q' => wpAny_typeOf_ref (k' _ _ e3) (by rw [z3.1]; exact q')
        have isA := PySem.W.exm_one (M := model X.prog X.w) J3.kIn tyA e1
        have named : ∀ {Q' : Value → Shared → Prop} {E' : Value → Shared → Prop}, Q' q.c { t with heap := h3 } → wpAny (model X.prog X.w) (X.A.mark (some (.ref a))) (eval (.Name x p1) X.env) Q' E' { t with heap := h3 } := by
          intro Q' E' hq
          rcases hc with ⟨g1, g2, g3 | ⟨g3, g4, g5⟩⟩
          · exact ld_glob (X := X.suite a ((a, oe) :: (X.pn ++ pins))) S3 g1 g3 hq g2
          · exact ld_blt (X := X.suite a ((a, oe) :: (X.pn ++ pins))) S3 g1 g3 g4 hq g5 g2
        refine named (isA.here ?_)
        cases yes with
        | false => exact ih (onNo rfl)
        | true =>
          apply codeAny_handlers_suite_as
          refine HandSPX.lands_againZ fly fun h4 fly4 up4 => ?_
          have J4 : Inv X pins σ' H' { t with heap := h4 } := J.landed ground fly4.1 ((upto.trans up3).trans up4) os bare
          obtain ⟨oe4, vs4, e4, z4, d4⟩ := fly4.there
          have S4 := J4.suite e4 d4 fresh nL nF
          refine store_ok (X := X.suite a ((a, oe4) :: (X.pn ++ pins))) (v := .ref a) S4 nd hi (.inl hl) rfl (fun t5 S5 => ?_) (.inr hl)
          refine wpAny_mono ((hs a oe4 cls d (X.pn ++ pins) z4 ⟨_, d4⟩).run [] t5 _ H' _ S5 (onYes rfl a fresh)) (fun f t6 went => ?_) (fun _ _ z => False.elim z)
          have off_ : ∀ {τ : L2.St} {G : Hp} {Q' : Shared → Prop}, Inv (X.suite a ((a, oe4) :: (X.pn ++ pins))) [] τ G t6 → (∀ t7, Inv X pins (τ.set q.i none) G t7 → Q' t7) →
              wpAny (model X.prog X.w) X.A (do bindName X.env n .none; unbindBehindTheSuite X.env n p2) (fun _ t7 => Q' t7) X.xe t6 := fun S6 hq => gone_ok (S6.unsuite good) nd hi hl hq
          cases f with
          | ret u => obtain ⟨v6, τ, G, S6, r6, q6⟩ := went; exact off_ S6 fun t7 J7 => ⟨_, _, _, J7, r6, q6⟩
          | next => obtain ⟨τ, G, S6, q6⟩ := went; exact off_ S6 fun t7 J7 => ⟨_, _, J7, q6⟩
          | brk => obtain ⟨τ, G, S6, q6⟩ := went; exact off_ S6 fun t7 J7 => ⟨_, _, J7, q6⟩
          | cont => obtain ⟨τ, G, S6, q6⟩ := went; exact off_ S6 fun t7 J7 => ⟨_, _, J7, q6⟩
    exact walk hh wish
  · cases f with
    | ret u => obtain ⟨v, τ, G, J, r, q⟩ := went; exact ⟨v, τ, G, J.ofTry good, r, q⟩
    | next => obtain ⟨τ, G, J, q⟩ := went; exact wpAny_execs_nil ⟨τ, G, J.ofTry good, q⟩
    | brk => obtain ⟨τ, G, J, q⟩ := went; exact ⟨τ, G, J.ofTry good, q⟩
    | cont => obtain ⟨τ, G, J, q⟩ := went; exact ⟨τ, G, J.ofTry good, q⟩
end
theorem takesNo {X : Cx} : Takes X (fun _ _ _ _ => False) := takes_none5

/-! ### isinstance of a caught error that has a dict -/
section
open PySem.W
variable {prog : Program} {w : World} {A : Around} {s : Shared} {K : Frag} {x D : Addr} {ox od : Obj}
theorem cls_exc {fr : Around} {F : Option Value → Shared → Prop} {G : Value → Shared → Prop} (T : ExcC K D) (kin : K.In s.heap) (at_ : PySem.W.InstAt s.heap x ox D (some od)) (q : F (some (.ref D)) { s with toks := s.toks + 1 }) :
    wpAny (model prog w) fr (getAttr? (.ref x) "__class__") F G s := by
  have there : (clsIn K D).isSome = true := by
    obtain ⟨cd, e, _⟩ := any_some T.hd
    rw [e]; rfl
  have found : findObj K D (some od) "__class__" = some (.bind (.builtin "getset_descriptor.__get__") (.builtin "object.__class__")) := findObj_data there T.ha T.hn T.ht
  obtain ⟨hp, gens, dr, tk, os⟩ := s
  have ty := at_.type (M := model prog w)
  have own := looks_findIn (M := model prog w) kin T.hg
  have none_ := looks_findIn (M := model prog w) kin T.hk
  have look := looks_find (M := model prog w) kin at_ found
  have isB : Looks (model prog w) hp (isInstance (.ref x) (.type "BaseException")) true := ty.andThen (looks_subIn kin T.hs)
  have ne1 : (Value.builtin "BaseException.__getattribute__" == Value.builtin "object.__getattribute__") = false := by decide +kernel
  have ne0 : (onTheHeap (Value.ref D) && (Value.builtin "BaseException.__getattribute__" == Value.builtin "object.__getattribute__")) = false := by rw [ne1, Bool.and_false]
  unfold getAttr? getAttrBy? getAttrBy; refine wpAny_bind (wpAny_mkText (wpAny_bind (wpAny_attempt (wpAny_holding (wpAny_bind (ty.at (wpAny_bind (own.at ?_))))))))
  show wpAny _ _ (if (onTheHeap (Value.ref D) && (Value.builtin "BaseException.__getattribute__" == Value.builtin "object.__getattribute__")) = true then _ else _) _ _ _
  rw [ne0, if_neg Bool.false_ne_true]; unfold getAttrByItsOwn hookBefore
  refine wpAny_bind ?_; rw [if_pos (show onTheHeap (.ref D) = true by rfl)]
  refine none_.at (wpAny_bind (wpAny_attempt (wpAny_holding ?_)))
  unfold callGetattribute; rw [show (false && onTheHeap (Value.builtin "BaseException.__getattribute__")) = false by rfl, if_neg Bool.false_ne_true]
  unfold boundAndCalled; rw [PySem.F.excAttr_ValueError.ga.bind (.ref x)]
  refine wpAny_bind (wpAny_pure ?_)
  show wpAny _ _ (call (.builtin "BaseException.__getattribute__") [.ref x, .str "__class__" tk]) _ _ _
  refine wpAny_call (codeAny_call_builtin PySem.F.excAttr_ValueError.ga.plain PySem.F.entry_bexc_ga (@check_slot (model prog w) _ _ ⟨hp, gens, dr, tk + 1, os⟩ "BaseException.__getattribute__" "BaseException" "__getattribute__" (.ref x) [.str "__class__" tk] [] _ (by decide +kernel) (by decide +kernel) isB (PySem.F.args_bexc_ga (.ref x) (.str "__class__" tk)) ?_))
  unfold Builtin.«object.__getattribute__»; refine wpAny_bind (wpAny_of_eq (a := ((Value.ref x : Value), [Value.str "__class__" tk])) (by first | rfl | (simp only [slotArgs]; rfl)) (wpAny_bind (wpAny_pure (wpAny_bind (ty.at (wpAny_bind (look.at ?_)))))))
  show wpAny _ _ (holding [Value.builtin "object.__class__"] (call (.builtin "getset_descriptor.__get__") [.builtin "object.__class__", .ref x, .ref D]) >>= ret) _ _ _
  refine wpAny_bind (wpAny_holding (wpAny_call (class_get (s := ⟨hp, gens, dr, tk + 1, os⟩) (ox := ox) (od := some od) kin at_ T.hm (wpAny_pure ?_))))
  show wpAny _ _ (handedOut (.ref D)) _ _ _
  rw [handedOut_of (v := .ref D) rfl]
  first
    | exact wpAny_pure (wpAny_pure q)
    | exact wpAny_pure q
    | exact wpAny_pure (wpAny_bind (wpAny_pure (wpAny_pure q)))
theorem kitE (T : ExcC K D) (od : Obj) : KitX K (.ref x) (.ref D) (fun h => InstAt h x ox D (some od)) := by
  obtain ⟨cd, e, _⟩ := any_some T.hd
  obtain ⟨o, hk, hdt⟩ : ∃ o, K.lookup D = some o ∧ o.data = .cls cd := by
    unfold clsIn at e
    split at e
    · rename_i q; cases e; exact ⟨_, q, rfl⟩
    · cases e
  refine ⟨fun _ _ _ I => I.type, fun _ _ X _ A' Q' E' s' k q => ?_, fun h tp dd its n sl X htp => ?_, fun X I k => cls_exc T X I k⟩
  · unfold isType loadHead
    refine wpAny_bind (wpAny_loadPart (k _ _ (X _ _ hk)) ?_)
    rw [hdt]
    exact wpAny_pure q
  · refine Bool.eq_false_iff.mpr fun q => ?_
    obtain rfl := Value.ref.inj (beq_iff_eq.mp q)
    have z := (X _ _ hk).symm.trans htp
    rw [Option.some.inj z] at hdt
    cases hdt
end
/-- isinstance(e, c) of the caught error e, an instance of D with a dict -/
theorem call_isED {X : Cx} {a D dd : Addr} {oe : Obj} {pn : List (Addr × Obj)} (T : ExcC X.K D) (hz : Zc (.ref D) (some dd) oe) (hf : ∃ vs, oe.data = .fields vs) :
    CallR (X.suite a ((a, oe) :: pn)) (.builtin "isinstance") (fun xs H Q => ∃ (c : V) (cv : Value) (b : Bool) (fs : List (Str × V)), xs = [.ref a, c] ∧ H dd = some (.xd fs) ∧ (∀ u, RelV c u → u = cv) ∧ PySem.W.kitOne X.K (.ref D) cv = some b ∧ Q (.bl b) H) := by
  intro pins s σ H xs us Q I r h
  obtain ⟨c, cv, b, fs, rfl, ed, hcv, e, q⟩ := h
  obtain ⟨u1, u2, rfl, r1, r2⟩ : ∃ u1 u2, us = [u1, u2] ∧ RelV (.ref a) u1 ∧ RelV c u2 := by
    cases r with
    | cons r1 r => cases r with
      | cons r2 r => cases r; exact ⟨_, _, rfl, r1, r2⟩
  obtain rfl : u1 = Value.ref a := r1
  obtain rfl := hcv _ r2
  have at_ := (I.pin (a, oe) (List.mem_append.mpr (.inl List.mem_cons_self))).1
  obtain ⟨vs, hv⟩ := hf
  have hx : ObjOk X.prog X.w H s.heap dd (.xd fs) := I.hok dd _ ed
  obtain ⟨mA, hns, _⟩ := hx
  obtain ⟨od, ho, _⟩ := lookIn_ns hns
  have J : PySem.W.InstAt s.heap a oe D (some od) := ⟨at_, hz.1, by unfold PySem.W.notCls; rw [hv] <;> rfl, by rw [hz.2]; exact ho⟩
  exact PySem.W.kia_one (kitE T od) I.kIn J e (fun z => nomatch z) fun tk => ⟨.bl b, H, I.kept (t' := tk) fun _ _ z => z, rfl, q⟩
end LL
/-! LX2: raising, what is raised; repr of any data; the head and the end where code objects have tables. -/
namespace LL
open PySem PySem.Spec PyProof.Rows L2

/-! ### own exceptions over ValueError: facts by a Bool -/
def oexO (C : Addr) : Obj → Bool
  | ⟨.type t, _, .cls cd, sl⟩ => (match sl.toList with
    | [_, _, _, _, some (.builtin n), _] => decide (t = "type") && (decide (n = "ValueError.__new__") && (!cd.hasDel && (cd.hasDict && (match cd.mro with
      | .ref c :: bm => decide (c = C) && PySem.HandSPX.refsVE bm
      | _ => false))))
    | _ => false)
  | _ => false
theorem oexO_ok {C : Addr} {o : Obj} (h : oexO C o = true) : ∃ nm q N bs bm sn sub ab col dd k0 k1 k2 k3 k5, o = excClassObj nm q C N bs bm true sn sub ab col dd k0 k1 k2 k3 k5 "ValueError.__new__" ∧ PySem.HandSPX.refsVE bm = true := by
  unfold oexO at h
  split at h
  · rename_i t od cd sl
    split at h
    · rename_i k0 k1 k2 k3 n k5 e2
      have h1 := He.ba h
      have h2 := He.ba h1.2
      have h3 := He.ba h2.2
      have h4 := He.ba h3.2
      clear h
      have a1 := h1.1
      have a2 := h2.1
      have a3 := h3.1
      have a4 := h4.1
      have h := h4.2
      clear h1 h2 h3 h4
      have a1 := of_decide_eq_true a1
      have a2 := of_decide_eq_true a2
      obtain ⟨nm, bs, mro, ns, qn, hd, sn, sub, ab, col, del⟩ := cd
      have a3 : del = false := by cases del <;> first | rfl | cases a3
      have a4 : hd = true := a4
      subst a1 a2 a3 a4
      dsimp only at h
      split at h
      · rename_i c bm
        obtain ⟨a5, a6⟩ := He.ba h
        have a5 := of_decide_eq_true a5
        subst a5
        have es : sl = #[k0, k1, k2, k3, some (.builtin "ValueError.__new__"), k5] := by
          obtain ⟨l⟩ := sl
          have e2 : l = _ := e2
          rw [e2]
        exact ⟨nm, qn, ns, bs, bm, sn, sub, ab, col, od, k0, k1, k2, k3, k5, by rw [es], a6⟩
      · cases h
    · cases h
  · cases h
def oexB (K : PySem.W.Frag) (C : Addr) : Bool := (match K.lookup C with
  | some o => oexO C o
  | none => false) && (He.eqO (PySem.W.findIn K (.ref C) "__setattr__") (some (some (.builtin "object.__setattr__"))) && (decide (PySem.W.subIn K (.ref C) (.type "BaseException") = some true) &&
    (decide (PySem.W.typeIn K (.ref C) = some (.type "type")) && PySem.W.keepIn K (.ref C))))
theorem oexB_ok {K : PySem.W.Frag} {C : Addr} (h : oexB K C = true) : OexC K C := by
  obtain ⟨h0, h⟩ := He.ba h
  obtain ⟨h1, h⟩ := He.ba h
  obtain ⟨h2, h⟩ := He.ba h
  obtain ⟨h3, h4⟩ := He.ba h
  refine ⟨?_, He.eqO_ok h1, of_decide_eq_true h2, of_decide_eq_true h3, h4⟩
  split at h0
  · rename_i o e
    obtain ⟨nm, q, N, bs, bm, sn, sub, ab, col, dd, k0, k1, k2, k3, k5, eo, hm⟩ := oexO_ok h0
    exact ⟨nm, q, N, bs, bm, sn, sub, ab, col, dd, k0, k1, k2, k3, k5, by rw [e, eo], hm⟩
  · cases h0
/-- such a class with a def for __init__ -/
structure Oex (K : PySem.W.Frag) (C f : Addr) : Prop where
  o : OexC K C
  i : PySem.W.findIn K (.ref C) "__init__" = some (some (.ref f))
  t : PySem.W.typeIn K (.ref f) = some (.type "function")
  x : XfC K C
  e : ExcC K C
def oexF (K : PySem.W.Frag) (C : Str) (f : Addr) : Bool := oexB K (He.ga K C) && (He.eqO (PySem.W.findIn K (.ref (He.ga K C)) "__init__") (some (some (.ref f))) && (decide (PySem.W.typeIn K (.ref f) = some (.type "function")) && (xfB K (He.ga K C) && isiB K C)))
theorem oexF_ok {K : PySem.W.Frag} {C : Str} {f : Addr} (h : oexF K C f = true) : Oex K (He.ga K C) f := by
  obtain ⟨h1, h⟩ := He.ba h
  obtain ⟨h2, h⟩ := He.ba h
  obtain ⟨h3, h⟩ := He.ba h
  obtain ⟨h4, h5⟩ := He.ba h
  have x := xfB_ok h4
  have i := isiB_ok h5
  exact ⟨oexB_ok h1, He.eqO_ok h2, of_decide_eq_true h3, x, ⟨x.ga, x.gg, x.exC, x.hdC, i.ha, i.hn, i.ht, i.hm⟩⟩

/-! ### what is raised -/
/-- an error of the class at C with f = v is raised, its dict new -/
def ExV (C : Addr) (f : Str) (v : V) (H : Hp) (E : XK) : Prop := ∀ dd H', H dd = none → Same H H' → H' dd = some (.xd [(f, v)]) → E (.ref C) (some dd) H'
theorem ExV.of {C : Addr} {f : Str} {v : V} {H : Hp} {E : XK} (x : ExV C f v H E) {dd : Addr} (hn : H dd = none) : E (.ref C) (some dd) (upd H dd (.xd [(f, v)])) :=
  x dd _ hn (fun b o e => by rw [upd_ne (ne_of_none e hn)]; exact e) upd_same
theorem ExV.same {C : Addr} {f : Str} {v : V} {H H' : Hp} {E : XK} (x : ExV C f v H E) (s : Same H H') : ExV C f v H' E := fun dd H2 hn s2 e => x dd H2 (s.free hn) (s.trans s2) e
/-- __init__(self, v): self.f = v -/
def sp_exi (K : PySem.W.Frag) (f : Str) : Sp := fun vs H Q _ => ∃ a C v, vs = [.ref a, v] ∧ OexC K C ∧ PySem.W.findIn K (.ref C) f = some none ∧ H a = some (exo a C none) ∧ ∀ dx, H dx = none → dx ≠ a → Q .non (upd (upd H dx (exd dx [(f, v)])) a (exo a C (some dx)))
/-- raise C(v): what is asked -/
theorem use_raise {K : PySem.W.Frag} {C : Addr} {f : Str} {v : V} {vs : List V} {H : Hp} {E Q : XK} (o : OexC K C) (no : PySem.W.findIn K (.ref C) f = some none) (e : vs = [v]) (q : ExV C f v H Q) :
    vs.length ≤ 1000 ∧ ∀ a, H a = none → sp_exi K f (.ref a :: (vs ++ [])) (upd H a (exo a C none)) (fun u H2 => u = .non ∧ ∃ (d : Addr) (fs : List (Str × V)), H2 a = some (exo a C (some d)) ∧ H2 d = some (exd d fs) ∧ H d = none ∧ Q (.ref C) (some d) (upd (del H2 a) d (.xd fs))) E := by
  subst e
  refine ⟨by show 1 ≤ 1000; decide, fun a ha => ⟨a, C, v, rfl, o, no, upd_same, fun dx hdx ne => ⟨rfl, dx, [(f, v)], upd_same, ?_, ?_, ?_⟩⟩⟩
  · rw [upd_ne ne, upd_same]
  · rw [upd_ne ne] at hdx; exact hdx
  · have hd : H dx = none := by rw [upd_ne ne] at hdx; exact hdx
    have eq : upd (del (upd (upd (upd H a (exo a C none)) dx (exd dx [(f, v)])) a (exo a C (some dx))) a) dx (.xd [(f, v)]) = upd H dx (.xd [(f, v)]) := by
      funext b
      by_cases h1 : b = dx
      · subst h1; rw [upd_same, upd_same]
      · rw [upd_ne h1, upd_ne h1]
        by_cases h2 : b = a
        · subst h2; rw [del_same, ha]
        · rw [del_ne h2, upd_ne h2, upd_ne h1, upd_ne h2]
    rw [eq]
    exact q.of hd
theorem r_mko {C : Addr} {sp : Sp} {dvs : List V} {ta : TA} {σ : L2.St} {H : Hp} {Q : XK} (q : ta σ H fun vs H1 => vs.length ≤ 1000 ∧ ∀ a, H1 a = none → sp (.ref a :: (vs ++ dvs)) (upd H1 a (exo a C none))
    (fun v H2 => v = .non ∧ ∃ (d : Addr) (fs : List (Str × V)), H2 a = some (exo a C (some d)) ∧ H2 d = some (exd d fs) ∧ H1 d = none ∧ Q (.ref C) (some d) (upd (del H2 a) d (.xd fs))) (fun _ _ _ => False)) : tMkO C sp dvs ta σ H Q := q

/-! ### defs that may raise -/
/-- the code object of the def at f -/
def codeOf (K : PySem.W.Frag) (f : Addr) : Option Addr := match K.lookup f with
  | some o => (match o.data with
    | .func fd => (match fd.code with
      | .ref c => some c
      | _ => none)
    | _ => none)
  | none => none
section
variable {P : Program} {w : World} {K : PySem.W.Frag} {mg : Str → Option Value} {base : Heap} {CX : CXT} {g : Bool} {k : Nat} {f : Addr} {fd : FuncData} {ps N : List Str} {sp : Sp} {x qual : Str} {args : Arguments} {body : List Stmt} {sc : Scope} {dvs : List V} {kws : List (Str × V)}
theorem funX (F : FunD K x qual args body sc dvs kws f fd) (S : FnScope N ps sc) (len : ∀ vs H Q E, sp vs H Q E → vs.length = ps.length)
    (hb : ∀ (cdv : Value) (A : Around) (outer : List Env) (s : Shared) (H : Hp) (vs : List V) (Q : VK) (E : XK), (∀ c, codeOf K f = some c → cdv = .ref c) → Room k (A.deeper (envOfC qual sc s.heap.objs.size f cdv)) → Clr g (A.deeper (envOfC qual sc s.heap.objs.size f cdv)) → sp vs H Q E →
      ∃ t, PSs (cxOf CX P w K mg base N qual sc f cdv A outer s H E) body t ∧ t { nx := fun _ H' => Q .non H', rt := Q } (start N vs) H) : FnG P w K mg base CX g (k + 1) f fd ps sp := by
  obtain ⟨oc, od, dV, kV, doc, pm, an, cdv, ct, osl, e, lk, hcd, _⟩ := F.ex
  subst e
  refine fnG_of lk hcd S len fun A outer s H vs Q E hr hg q => hb cdv A outer s H vs Q E (fun c hc => ?_) hr hg q
  unfold codeOf at hc
  rw [lk] at hc
  cases cdv <;> first | (cases hc; rfl) | cases hc
end
/-- what a call may let out is what the def may let out -/
theorem passX {X : Cx} {W : WX} {E : XK} (tk : Takes X W) (h : ∀ cls d σ H, E cls d H → W cls d σ H) : Passes (L2.CX X.prog X.w) X E := passes_call tk h
/-- a call of a def that may raise, but does not here -/
theorem passN {X : Cx} : Passes (L2.CX X.prog X.w) X (fun _ _ _ => False) := passes_call takesNo fun _ _ _ _ h => h.elim

/-! ### repr of any data -/
/-- the text of a value's repr -/
def rReprV (K : PySem.W.Frag) : List V → Hp → VK → Prop := fun xs H Q => ∃ v d, xs = [v] ∧ Dp K H v d ∧ d.showable = true ∧ d.hasDict = false ∧ d.depth ≤ 16 ∧ d.shown.length + 64 ≤ sizeLine ∧ Q (.str d.shown) H
end LL
/-! LX3: repr of any data, empty dicts too; the head and the law's call where code objects have tables. -/
namespace LL
open PySem PySem.Spec PyProof.Rows L2

theorem clr_mark {g : Bool} {A : Around} {v : Option Value} (c : Clr g A) : Clr g (A.mark v) := fun e => by
  have h := c e
  first | exact h | (simpa [Around.mark] using h)

/-! ### repr -/
/-- z is the text of v's repr, found without a change -/
def RpV (K : PySem.W.Frag) (H : Hp) (v : V) (z : Str) : Prop := (∃ d, Dp K H v d ∧ d.showable = true ∧ d.hasDict = false ∧ d.depth ≤ 16 ∧ z = d.shown ∧ z.length ≤ sizeLine) ∨ (∃ a, v = .ref a ∧ H a = some (.dK []) ∧ z = PyData.shown (.dict []))
def rRpV (K : PySem.W.Frag) : List V → Hp → VK → Prop := fun xs H Q => ∃ v z, xs = [v] ∧ RpV K H v z ∧ Q (.str z) H
theorem shown_dict0 : (PyData.shown (.dict [])).length ≤ sizeLine := by decide +kernel
section
variable {X : Cx}
theorem cr_reprV (hg : Clr true X.A) (hu : X.A.units + 64 < cLine) : CallR X (.builtin "repr") (rRpV X.K) := by
  intro pins s σ H xs us Q I r h
  obtain ⟨v, z, rfl, hv, q⟩ := h
  obtain ⟨u, rfl, ru⟩ := vals1 r
  rcases hv with ⟨d, hd, h1, h2, h3, rfl, h4⟩ | ⟨a, rfl, ha, rfl⟩
  · cases hd with
    | non => cases ru; exact PySem.P.repr_of_none ⟨.str _, H, I.tok _, ⟨s.toks, rfl⟩, q⟩
    | bl b =>
      cases ru
      refine PySem.P.repr_of_bool ⟨.str (PyData.shown (.bool b)), H, I.tok _, ⟨s.toks, ?_⟩, q⟩
      cases b <;> rfl
    | int i =>
      obtain ⟨t, rfl⟩ := ru
      exact PySem.P.repr_of_int (of_decide_eq_true h1) ⟨.str _, H, I.tok _, ⟨s.toks, rfl⟩, q⟩
    | str x =>
      obtain ⟨t, rfl⟩ := ru
      exact PySem.P.repr_of_str ⟨.str _, H, I.tok _, ⟨s.toks, rfl⟩, q⟩ h4
    | lst hs hd =>
      cases ru
      obtain ⟨as, rd⟩ := Dp.reads I _ _ _ (Dp.lst hs hd) (show RelV (.ref _) (Value.ref _) from rfl)
      exact repr_of_reads' rd h1 (PyData.noDict_hsm h2) (hg rfl) (by omega) (fun _ _ z => z) (fun h' v tk hk => ⟨.str _, H, I.kept hk, ⟨_, rfl⟩, q⟩) h4
    | tup hs hd =>
      cases ru
      obtain ⟨as, rd⟩ := Dp.reads I _ _ _ (Dp.tup hs hd) (show RelV (.ref _) (Value.ref _) from rfl)
      exact repr_of_reads' rd h1 (PyData.noDict_hsm h2) (hg rfl) (by omega) (fun _ _ z => z) (fun h' v tk hk => ⟨.str _, H, I.kept hk, ⟨_, rfl⟩, q⟩) h4
  · cases ru
    obtain ⟨_, ns, vs, rel, o, es, ep, ho, ex, hd, _, pr, _⟩ := dk_of I.hok ha
    cases rel
    have e0 : es.toList = [] := by cases hp : es.toList with
      | nil => rfl
      | cons x l => rw [hp] at pr; cases pr
    have rd : Reads s.heap (.ref a) (.dict []) (a :: [] ++ []) := .dict ho ex.1 hd (by rw [e0]; exact .nil) (by rw [e0]; exact .nil)
    exact repr_of_reads' rd (by decide +kernel) (fun _ hm => by simp at hm; rw [← hm] at ns; simp at ns) (hg rfl) (by show X.A.units + (1 + 1) < cLine; omega) (fun _ _ z => z) (fun h' v tk hk => ⟨.str _, H, I.kept hk, ⟨_, rfl⟩, q⟩) shown_dict0
end

theorem cr_reprVK {X : Cx} {K' : PySem.W.Frag} (hg : Clr true X.A) (hu : X.A.units + 64 < cLine) (hK : X.K = K' := by rfl) : CallR X (.builtin "repr") (rRpV K') := by
  subst hK
  exact cr_reprV hg hu
/-! ### tables -/
/-- the def at f: its code object, its table -/
def tabOf (K : PySem.W.Frag) (f : Addr) : Option (Addr × Addr) := match codeOf K f with
  | some c => (match K.lookup c with
    | some o => (match o.data with
      | .fields vs => (match (vs.toList[11]? : Option Value) with
        | some (Value.ref P) => some (c, P)
        | _ => none)
      | _ => none)
    | none => none)
  | none => none
def tabsIn (K : PySem.W.Frag) (fs : List Str) : List (Addr × Addr) := fs.filterMap fun x => tabOf K (He.ga K x)
/-- the fragment without what stands at these addresses -/
def cutF (K : PySem.W.Frag) (l : List Addr) : PySem.W.Frag := K.filter fun p => !l.contains p.1
theorem cutF_lookup {K : PySem.W.Frag} {l : List Addr} {a : Addr} : (cutF K l).lookup a = if l.contains a then none else K.lookup a := by
  induction K with
  | nil => cases h : l.contains a <;> simp [cutF, h]
  | cons p r ih =>
    obtain ⟨b, o⟩ := p
    unfold cutF at ih ⊢
    by_cases hb : l.contains b = true
    · rw [List.filter_cons_of_neg (by simp only [hb]; decide), ih]
      by_cases ha : l.contains a = true
      · rw [if_pos ha, if_pos ha]
      · rw [if_neg ha, if_neg ha]
        have : (a == b) = false := by
          refine beq_eq_false_iff_ne.mpr fun z => ?_
          rw [z] at ha
          exact ha hb
        simp [List.lookup, this]
    · rw [List.filter_cons_of_pos (by simp only [Bool.not_eq_true] at hb; simp only [hb]; decide)]
      by_cases e : a = b
      · subst e
        rw [if_neg hb]
        simp [List.lookup]
      · have : (a == b) = false := beq_eq_false_iff_ne.mpr e
        simp only [List.lookup, this]
        exact ih
theorem cutF_in {K : PySem.W.Frag} {l : List Addr} {h : Heap} (X : K.In h) : (cutF K l).In h := fun a o e => X a o (by
  rw [cutF_lookup] at e
  split at e
  · cases e
  · exact e)
theorem cutF_not {K : PySem.W.Frag} {l : List Addr} {a : Addr} (h : a ∈ l) : (cutF K l).lookup a = none := by
  rw [cutF_lookup, if_pos (List.contains_iff_mem.mpr h)]
/-- a table that is empty -/
def isTab0 : Option Obj → Bool
  | some ⟨.none, none, .fields vs, sl⟩ => decide (vs.size = 0) && decide (sl.size = 0)
  | _ => false
theorem isTab0_ok {o : Option Obj} (h : isTab0 o = true) : o = some { cls := .none, data := .fields #[] } := by
  unfold isTab0 at h
  split at h
  · rename_i vs sl
    obtain ⟨h1, h2⟩ := He.ba h
    have h1 := of_decide_eq_true h1
    have h2 := of_decide_eq_true h2
    have e1 : vs = #[] := Array.eq_empty_of_size_eq_zero h1
    have e2 : sl = #[] := Array.eq_empty_of_size_eq_zero h2
    rw [e1, e2]
  · cases h
/-- the fragment that the head tells of: what the names reach, less the tables of the defs fs -/
def frT (n : Nat) (fs : List Str) (g : Addr → Option Obj) : PySem.W.Frag := cutF (He.frG g (He5.asA g n)) ((tabsIn (He.frG g (He5.asA g n)) fs).map (·.2))
def tabB (K : PySem.W.Frag) (g : Addr → Option Obj) (fs : List Str) : Bool := fs.all fun x => match tabOf K (He.ga K x) with
  | some (c, P) => PySem.W.codeHdIn K c P && (isTab0 (g P) && (K.lookup P).isNone)
  | none => false
def obsT (n : Nat) (fa : List He.Fa) (fn : List He5.DefA) (ex : PySem.W.Frag → Bool) (fs : List Str) (g : Addr → Option Obj) : He.AlD × Bool :=
  let K := frT n fs g
  (He5.obsA fa fn K, ex K && tabB K g fs)
/-- what the head says of the fragment and the tables -/
structure TabsOk (K : PySem.W.Frag) (h : Heap) (fs : List Str) : Prop where
  ex : ∀ x ∈ fs, ∃ c P, tabOf K (He.ga K x) = some (c, P) ∧ PySem.W.CodeHd h c P ∧ h.get? P = some { cls := .none, data := .fields #[] } ∧ K.lookup P = none
theorem tabB_ok {K : PySem.W.Frag} {h : Heap} {fs : List Str} (X : K.In h) (e : tabB K h.get? fs = true) : TabsOk K h fs := by
  refine ⟨fun x hx => ?_⟩
  have z := List.all_eq_true.mp e x hx
  split at z
  · rename_i c P q
    obtain ⟨z1, z⟩ := He.ba z
    obtain ⟨z2, z3⟩ := He.ba z
    exact ⟨c, P, q, PySem.W.codeHd_of_K X z1, isTab0_ok z2, Option.isNone_iff_eq_none.mp z3⟩
  · cases z
def hookT (n : Nat) (fa : List He.Fa) (fn : List He5.DefA) (ex : PySem.W.Frag → Bool) (fs : List Str) : PySem.W.Hook where
  α := He.AlD × Bool
  obs := fun s => obsT n fa fn ex fs s.heap.get?
  val := fun _ => (He5.valA fn, true)
  says := fun _ h => ∃ K : PySem.W.Frag, K.In h ∧ He5.SaysA fa fn K ∧ ex K = true ∧ TabsOk K h fs
  of := fun _ s e => by
    have X : (frT n fs s.heap.get?).In s.heap := cutF_in He.frG_in
    have e2 : (ex (frT n fs s.heap.get?) && tabB (frT n fs s.heap.get?) s.heap.get? fs) = true := congrArg Prod.snd e
    obtain ⟨a, b⟩ := He.ba e2
    exact ⟨_, X, congrArg Prod.fst e, a, tabB_ok X b⟩
  keeps := fun _ _ _ ⟨K, hK, c, x, t⟩ k => ⟨K, PySem.W.Frag.In.keeps hK k, c, x, ⟨fun y hy => by
    obtain ⟨c, P, a1, a2, a3, a4⟩ := t.ex y hy
    exact ⟨c, P, a1, a2.keeps k, k _ _ a3, a4⟩⟩⟩
theorem obsT_eq {n : Nat} {fa : List He.Fa} {fn : List He5.DefA} {ex : PySem.W.Frag → Bool} {fs : List Str} {g : Addr → Option Obj} {s : Shared} (h : ∀ a, g a = s.heap.get? a) : obsT n fa fn ex fs g = (hookT n fa fn ex fs).obs s := by
  have e : g = s.heap.get? := funext h
  subst e
  rfl
end LL
/-! LX4: the law's call where code objects have tables. -/
namespace LL
open PySem PySem.Spec PyProof.Rows L2 LamX

/-- nothing is tracked but the script, if the fragment does not tell it, and the tables -/
def firstH (K : PySem.W.Frag) (Ts : List Addr) (a : Addr) (us : List Value) (ns : List Int) : Hp := fun b =>
  if b ∈ Ts then some (.tbl #[]) else if b = a then (match K.lookup a with
    | some _ => none
    | none => some (.frz { cls := .type "list", data := .seq us.toArray } (.lst (ns.map V.int)))) else none
section
variable {K : PySem.W.Frag} {Ts : List Addr} {a : Addr} {us : List Value} {ns : List Int}
theorem firstH_tab {b : Addr} (h : b ∈ Ts) : firstH K Ts a us ns b = some (.tbl #[]) := if_pos h
theorem firstH_cases {b : Addr} {u : HO} (h : firstH K Ts a us ns b = some u) : (b ∈ Ts ∧ u = .tbl #[]) ∨ (b ∉ Ts ∧ b = a ∧ K.lookup a = none ∧ u = .frz { cls := .type "list", data := .seq us.toArray } (.lst (ns.map V.int))) := by
  unfold firstH at h
  by_cases h1 : b ∈ Ts
  · rw [if_pos h1] at h; cases h; exact .inl ⟨h1, rfl⟩
  · rw [if_neg h1] at h
    by_cases h2 : b = a
    · rw [if_pos h2] at h
      match hk : K.lookup a, h with
      | some o, h => cases h
      | none, h => cases h; exact .inr ⟨h1, h2, rfl, rfl⟩
    · rw [if_neg h2] at h; cases h
end
theorem law_gT {P : Program} {w : World} {K : PySem.W.Frag} {mg mb : Str → Option Value} {CX : CXT} {g : Bool} {k : Nat} {fa a : Addr} {fd : FuncData} {x : Str} {sp : Sp} {s0 : Shared} {us : List Value} {ns : List Int} {tabs : List (Addr × Addr)}
    (KX : K.In s0.heap) (G : s0.heap.Ns mainGlobals mg) (B : s0.heap.Ns builtinsNs mb) (BB : ∀ x : Str, x ≠ "__name__" → mb x = bootBuiltins x) (L : s0.heap.NoLimit) (gens : s0.gens = #[])
    (tA : ∀ q ∈ tabs, s0.heap.get? q.2 = some { cls := .none, data := .fields #[] }) (tK : ∀ q ∈ tabs, K.lookup q.2 = none) (tC : ∀ q ∈ tabs, PySem.W.CodeHd s0.heap q.1 q.2)
    (main : ∃ (bm : Addr) (ob : Obj), mg "__builtins__" = some (.ref bm) ∧ bm ≠ builtinsNs ∧ s0.heap.get? bm = some ob ∧ ob.cls = .type "module" ∧ ob.dict = some builtinsNs ∧ ob.data = .plain)
    (ha : s0.heap.get? a = some { cls := .type "list", data := .seq us.toArray }) (hi : IntsAre us ns) (hl : ns.length ≤ sizeLine) (room : Room k callerA)
    (F : ∀ base : Heap, K.In base → base.Ns mainGlobals mg → (∀ q ∈ tabs, TabB base mg q.1 q.2) → FnG P w K mg base CX g k fa fd [x] sp) (bind : ∀ (s : Shared) (u : Value), BindsTo s fd ⟨[u], []⟩ [(x, u)])
    (want : ∀ H : Hp, (∀ q ∈ tabs, H q.2 = some (.tbl #[])) → SqL K H a (ns.map V.int) → sp [.ref a] H (fun v _ => v = .bl true) fun _ _ _ => False) (none_ : ∀ H e s', CX [] H s0 (fun _ _ _ => False) e s' → False) :
    codeAny (model P w) callerA (.call (.ref fa) ⟨[.ref a], []⟩) (fun r s' => r = .ok (.ret (.bool true)) ∧ OldK s0.heap s'.heap ∧ s'.os = s0.os ∧ AllBare s'.gens) s0 := by
  have rel := vals_ints hi
  have lenV := hi.length
  let Ts := tabs.map (·.2)
  have inT : ∀ q ∈ tabs, q.2 ∈ Ts := fun q hq => List.mem_map.mpr ⟨q, hq, rfl⟩
  have ofT : ∀ {b : Addr}, b ∈ Ts → ∃ q ∈ tabs, q.2 = b := fun hb => List.mem_map.mp hb
  have atT : ∀ {b : Addr}, b ∈ Ts → s0.heap.get? b = some { cls := .none, data := .fields #[] } := fun hb => by
    obtain ⟨q, hq, e⟩ := ofT hb
    rw [← e]; exact tA q hq
  let H := firstH K Ts a us ns
  have aT : a ∉ Ts := fun z => by
    have q := atT z
    rw [ha] at q
    cases q
  -- what is not tracked
  have freeOf : ∀ {b : Addr} {o : Obj}, s0.heap.get? b = some o → (∀ vs n, o.data ≠ .seq vs n) → o.data ≠ .fields #[] → H b = none := by
    intro b o e h1 h2
    match q : H b with
    | none => rfl
    | some u =>
      rcases firstH_cases q with ⟨z, _⟩ | ⟨_, z, _, _⟩
      · rw [atT z] at e; cases e; exact absurd rfl h2
      · rw [z, ha] at e; cases e; exact absurd rfl (h1 _ _)
  have up : ∀ {b : Addr} {m : Str → Option Value}, s0.heap.Ns b m → (hidT s0.heap H).Ns b m := by
    rintro b m ⟨o, es, ep, e, d, r⟩
    refine ⟨o, es, ep, hidT_get e (freeOf e (fun vs n z => ?_) fun z => ?_), d, r⟩
    · rw [d] at z; cases z
    · rw [d] at z; cases z
  have KB : K.In (hidT s0.heap H) := by
    intro b o e
    refine hidT_get (KX b o e) ?_
    match q : H b with
    | none => rfl
    | some u =>
      rcases firstH_cases q with ⟨z, _⟩ | ⟨_, z, kz, _⟩
      · obtain ⟨p, hp, ep⟩ := ofT z
        rw [← ep, tK p hp] at e; cases e
      · rw [z, kz] at e; cases e
  have TB : ∀ q ∈ tabs, TabB (hidT s0.heap H) mg q.1 q.2 := by
    intro q hq
    have tq := tA q hq
    refine ⟨?_, ?_, fun z => ?_⟩
    · obtain ⟨o, vs, file, tf, flags, tg, inF, text, tt, e1, r1, r2, r3, rest⟩ := tC q hq
      refine ⟨o, vs, file, tf, flags, tg, inF, text, tt, hidT_get e1 (freeOf e1 (fun vs n z => ?_) fun z => ?_), r1, r2, r3, rest⟩
      · rw [r2] at z; cases z
      · rw [r2] at z; cases z; simp at r3
    · obtain ⟨bm, ob, b1, b2, b3, b4, b5, b6⟩ := main
      refine ⟨bm, ob, b1, b2, fun z => ?_, fun z => ?_, hidT_get b3 (freeOf b3 (fun vs n z => ?_) fun z => ?_), b4, b5, b6⟩
      · obtain ⟨o, es, ep, e, hd, _⟩ := G
        rw [z, e] at b3; cases b3; rw [hd] at b6; cases b6
      · rw [z, tq] at b3; cases b3; cases b6
      · rw [b6] at z; cases z
      · rw [b6] at z; cases z
    · obtain ⟨o, es, ep, e, hd, _⟩ := G
      rw [z, tq] at e; cases e; cases hd
  have seq : SqL K H a (ns.map V.int) := by
    match hk : K.lookup a with
    | some o =>
      have e := KX a o hk
      rw [ha] at e
      cases e
      exact .inr ⟨_, us.toArray, _, hk, rfl, rfl, rfl, by rw [List.size_toArray, lenV]; exact hl, by simpa using rel⟩
    | none =>
      refine .inl (.inr ⟨{ cls := .type "list", data := .seq us.toArray }, ?_⟩)
      show (if a ∈ Ts then _ else _) = _
      rw [if_neg aT, if_pos rfl, hk]
  have hok : HOk P w H s0.heap := by
    intro b u q
    rcases firstH_cases q with ⟨z, rfl⟩ | ⟨_, rfl, _, rfl⟩
    · exact atT z
    · exact ⟨ha, by rw [List.length_map]; exact hl, us, _, rel, ha⟩
  obtain ⟨mc, l1, l2⟩ := L
  have M : Mod K mg (hidT s0.heap H) := ⟨KB, up G, ⟨mb, up B, BB⟩, ⟨mc, up l1, l2⟩⟩
  have e0 : Env0 P w K mg (hidT s0.heap H) callerA [] s0 H := ⟨rfl, M, fun _ _ e => of_hidT e, Nat.le_of_eq (hidT_size _ _), trivial, (fun b hb => nomatch hb), hok, .of_eq gens⟩
  refine codeAny_mono ((F _ KB (up G) TB).run callerA [] s0 H ⟨[.ref a], []⟩ [.ref a] [.ref a] _ _ room (fun _ => rfl) e0 (bind s0 (.ref a)) (.cons rfl .nil) (want H (fun q hq => firstH_tab (inT q hq)) seq)) ?_
  intro r s' h
  match r, h with
  | .error e, h => exact (none_ H e s' h).elim
  | .ok .next, h => exact h.elim
  | .ok .brk, h => exact h.elim
  | .ok .cont, h => exact h.elim
  | .ok (.ret u), h =>
    obtain ⟨v, H', os, bare, un, hok', rv, ev⟩ := h
    have ev : v = V.bl true := ev
    subst ev
    obtain rfl : u = Value.bool true := rv
    have keep : ∀ b o, b ∉ Ts → s0.heap.get? b = some o → s'.heap.get? b = some o := by
      intro b o nb e
      match q : H b with
      | none => exact un.keep b o e q (fun z => nomatch z) (by simp)
      | some u =>
        rcases firstH_cases q with ⟨z, _⟩ | ⟨_, _, _, rfl⟩
        · exact absurd z nb
        · have z1 := (hok b _ q).1
          have z2 := (hok' b _ (un.frzs b _ _ q)).1
          rw [e] at z1
          cases z1
          exact z2
    have grown : ∀ {b : Addr}, b ∈ Ts → ∃ more : Array Value, s'.heap.get? b = some { cls := .none, data := .fields more } := fun {b} hb => by
      obtain ⟨more, z⟩ := un.tbls b #[] (firstH_tab hb)
      exact ⟨_, hok' b _ z⟩
    refine ⟨rfl, ⟨fun b o e => ?_, fun b o e => ?_⟩, os, bare⟩
    · by_cases hb : b ∈ Ts
      · obtain ⟨p, hp, ep⟩ := ofT hb
        obtain ⟨more, hm⟩ := grown hb
        have e' := atT hb
        rw [e'] at e
        cases e
        subst ep
        exact .inr (.inl ⟨((tC p hp).tab (tA p hp)).isCodeTable, rfl, #[], more, rfl, by rw [Array.empty_append]; exact hm⟩)
      · exact .inl (keep b o hb e)
    · by_cases hb : b ∈ Ts
      · obtain ⟨more, hm⟩ := grown hb
        exact ⟨_, hm⟩
      · exact ⟨o, keep b o hb e⟩
theorem walk_gT {l : PySem.W.OpenLaw} {n k : Nat} {g : Bool} {q : Program} {loose : List Str} {XP : (Str → Option Value) → Heap → Prop} {YP : World → Heap → Prop} {d : DefRec} {CX : World → CXT} {x : Str}
    (hn : l.most = some n) (hn2 : n ≤ sizeLine) (hdf : d.params.defaults = []) (room : Room k callerA)
    (F : ∀ (w : World) (mg : Str → Option Value) (fa : Addr) (h : Heap), YP w h → XP mg h → h.Ns mainGlobals mg → mg d.name = some (.ref fa) →
      ∃ (K : PySem.W.Frag) (fd : FuncData) (sp : Sp) (tabs : List (Addr × Addr)), K.In h ∧ (∀ q ∈ tabs, h.get? q.2 = some { cls := .none, data := .fields #[] } ∧ K.lookup q.2 = none ∧ PySem.W.CodeHd h q.1 q.2) ∧ (∀ (s : Shared) (u : Value), BindsTo s fd ⟨[u], []⟩ [(x, u)]) ∧
        (∀ (H : Hp) (a : Addr) (ns : List Int), ns.length ≤ n → (∀ q ∈ tabs, H q.2 = some (.tbl #[])) → SqL K H a (ns.map V.int) → sp [.ref a] H (fun v _ => v = .bl true) fun _ _ _ => False) ∧
        ∀ base : Heap, K.In base → base.Ns mainGlobals mg → (∀ q ∈ tabs, TabB base mg q.1 q.2) → FnG l.prog w K mg base (CX w) g k fa fd [x] sp)
    (none_ : ∀ (w : World) (H : Hp) (s : Shared) (e : Value) (s' : Shared), CX w [] H s (fun _ _ _ => False) e s' → False) : PySem.W.WalkO q loose XP YP l.row.toRowW d [] (fun f vs => PySem.call f vs) := by
  refine Att.attach_callB hn hdf ?_
  intro w s0 s1 mg mb fa o pm cd doc a us ns G Y ho hd hcd hmg hobj hints hlen hbits gens
  obtain ⟨K, fd, sp, tabs, KX, hT, hb, hsp, hF⟩ := F w mg fa _ Y G.X G.T.g hmg
  exact law_gT KX G.T.g G.T.b G.T.builtins G.T.nolimit gens (fun q hq => (hT q hq).1) (fun q hq => (hT q hq).2.1) (fun q hq => (hT q hq).2.2) G.T.bmain hobj hints (Nat.le_trans hlen hn2) room hF hb (fun H hH hS => hsp H a ns hlen hH hS) (fun H e s' => none_ w H s1 e s')
end LL
/-! LX5: what stays (Fr); a lambda handed to a def of the text; the def that calls it in a try. -/
namespace LL
open PySem PySem.Spec PyProof.Rows L2 LamX

/-! ### what stays -/
/-- neither a table nor an object of another kind -/
def Pl : HO → Prop
  | .tbl _ => False
  | .ext _ => False
  | _ => True
theorem Pl.tbl {o : HO} (h : Pl o) (ps : Array Value) : o ≠ .tbl ps := fun z => by subst z; exact h
theorem Pl.code {o : HO} (h : Pl o) (c : Addr) (q : Str) : o ≠ CodeO c q := fun z => by subst z; exact h
/-- all but what stands at S stays; the tables are tables -/
structure Fr (T : List (Addr × Str)) (S : List Addr) (H H' : Hp) : Prop where
  kp : ∀ b o, b ∉ S → (∀ ps, o ≠ .tbl ps) → H b = some o → H' b = some o
  tb : Tabs T H → Tabs T H'
section
variable {T : List (Addr × Str)} {S S' : List Addr} {H H1 H2 : Hp} {a p d : Addr} {o : HO}
theorem Fr.refl : Fr T S H H := ⟨fun _ _ _ _ e => e, id⟩
theorem Fr.same (s : Same H H1) : Fr T S H H1 := ⟨fun b o _ _ e => s b o e, fun t => t.ext s⟩
theorem Fr.trans (x : Fr T S H H1) (y : Fr T S H1 H2) : Fr T S H H2 := ⟨fun b o h n e => y.kp b o h n (x.kp b o h n e), fun t => y.tb (x.tb t)⟩
theorem Fr.mono (x : Fr T S H H1) (h : ∀ b ∈ S, b ∈ S') : Fr T S' H H1 := ⟨fun b o hb n e => x.kp b o (fun z => hb (h b z)) n e, x.tb⟩
/-- what was new on the way may have changed -/
theorem Fr.step (x : Fr T S H H1) (n : H1 d = none) (y : Fr T (d :: S) H1 H2) : Fr T S H H2 := ⟨fun b o hb nt e => by
    have e1 := x.kp b o hb nt e
    refine y.kp b o (fun z => ?_) nt e1
    rcases List.mem_cons.mp z with z | z
    · rw [z, n] at e1; cases e1
    · exact hb z, fun t => y.tb (x.tb t)⟩
theorem Fr.at_ (x : Fr T S H H1) (e : H a = some o) (h : Pl o) (ha : a ∉ S) : H1 a = some o := x.kp a o ha h.tbl e
theorem Fr.same_of (x : Fr T [] H H1) (h : ∀ b o, H b = some o → Pl o) : Same H H1 := fun b o e => x.at_ e (h b o e) (fun z => nomatch z)
/-- a store at p -/
theorem Fr.set (e : H p = some o) (h : Pl o) (hp : p ∈ S) (ne : ∀ b, b ≠ p → H1 b = H b) : Fr T S H H1 := ⟨fun b u hb _ eb => by
    rw [ne b (fun z => hb (z ▸ hp))]; exact eb, fun t q hq => by
    obtain ⟨ps, a1, a2, a3⟩ := t q hq
    have off : ∀ b u, H b = some u → u ≠ o → H1 b = some u := fun b u eb nu => by
      rw [ne b (fun z => by rw [z, e] at eb; exact nu (Option.some.inj eb).symm)]; exact eb
    refine ⟨ps, off _ _ a1 (fun z => h.tbl ps z.symm), a2, fun pos cv hcv => ?_⟩
    obtain ⟨c, e1, e2⟩ := a3 pos cv hcv
    exact ⟨c, e1, off _ _ e2 (fun z => h.code c _ z.symm)⟩⟩
/-- an object that is new: stored, then changed -/
theorem Fr.ext (e : ExtN H H1) (t : Tabs T H1) : Fr T S H H1 := ⟨fun b o _ n eb => e b o eb n, fun _ => t⟩
end

/-! ### tables by names -/
def tabL (K : PySem.W.Frag) (fs : List Str) : List (Addr × Str) := fs.filterMap fun x => (tabOf K (He.ga K x)).map fun q => (q.2, (x ++ ".<locals>.") ++ "<lambda>")
theorem tabL_mem {K : PySem.W.Frag} {fs : List Str} {x : Str} {c P : Addr} (h : x ∈ fs) (e : tabOf K (He.ga K x) = some (c, P)) : (P, (x ++ ".<locals>.") ++ "<lambda>") ∈ tabL K fs := List.mem_filterMap.mpr ⟨x, h, by rw [e]; rfl⟩
theorem tabsIn_mem {K : PySem.W.Frag} {fs : List Str} {x : Str} {c P : Addr} (h : x ∈ fs) (e : tabOf K (He.ga K x) = some (c, P)) : (c, P) ∈ tabsIn K fs := List.mem_filterMap.mpr ⟨x, h, e⟩
theorem tabs_start {K : PySem.W.Frag} {fs : List Str} {H : Hp} (h : ∀ q ∈ tabsIn K fs, H q.2 = some (.tbl #[])) : Tabs (tabL K fs) H := fun q hq => by
  obtain ⟨x, hx, e⟩ := List.mem_filterMap.mp hq
  cases t : tabOf K (He.ga K x) with
  | none => rw [t] at e; cases e
  | some r =>
    obtain ⟨c, P⟩ := r
    rw [t] at e
    cases e
    exact TabS.nil (h _ (tabsIn_mem hx t))
theorem tabs_ok {K : PySem.W.Frag} {h : Heap} {fs : List Str} (t : TabsOk K h fs) : ∀ q ∈ tabsIn K fs, h.get? q.2 = some { cls := .none, data := .fields #[] } ∧ K.lookup q.2 = none ∧ PySem.W.CodeHd h q.1 q.2 := fun q hq => by
  obtain ⟨x, hx, e⟩ := List.mem_filterMap.mp hq
  obtain ⟨c, P, a1, a2, a3, a4⟩ := t.ex x hx
  rw [a1] at e
  cases e
  exact ⟨a3, a4, a2⟩
/-- each table has one name -/
def tabU (K : PySem.W.Frag) (fs : List Str) : Bool := (tabL K fs).all fun p => (tabL K fs).all fun q => !decide (p.1 = q.1) || decide (p.2 = q.2)
theorem tabU_ok {K : PySem.W.Frag} {fs : List Str} (h : tabU K fs = true) {p q : Addr × Str} (hp : p ∈ tabL K fs) (hq : q ∈ tabL K fs) (e : p.1 = q.1) : p.2 = q.2 := by
  have z := List.all_eq_true.mp (List.all_eq_true.mp h p hp) q hq
  rw [decide_eq_true e] at z
  exact of_decide_eq_true z
theorem codeOf_tab {K : PySem.W.Frag} {f c P : Addr} (e : tabOf K f = some (c, P)) : codeOf K f = some c := by
  unfold tabOf at e
  split at e
  · rename_i c' hc
    rw [hc]
    repeat' split at e
    all_goals first | (cases e; rfl) | cases e
  · cases e

/-! ### x(lambda: body) -/
theorem pg_lamK {X : Cx} {K' : PySem.W.Frag} {mg' : Str → Option Value} {base' : Heap} {qn : Str} {fs : List Str} {TT : (XK → Hp → VK → Prop) → Hp → VK → Prop} {x a : Str} {g c P : Addr} {k : Nat} {fd : FuncData} {pg : Arguments} {bg : List Stmt} {sg : Scope} {Ng : List Str}
    {params : Arguments} {body : Expr} {scope : Scope} {t : XK → TE} {p lpos pos : Pos} (F : FunD K' x x pg bg sg [] [] g fd) (hb : L2.Binds K' fd [a] []) (hg : Gl X x) (hm : mg' x = some (.ref g)) (Sg : FnScope Ng [a] sg) (hNg : Ng[0]? = some a) (hva : Vis sg a)
    (hG : ∀ cdv, GivesTo X Ng x sg g cdv bg a ((qn ++ ".<locals>.") ++ "<lambda>") TT)
    (e : tabOf K' (He.ga K' qn) = some (c, P)) (hx : qn ∈ fs) (TB : ∀ q ∈ tabsIn K' fs, TabB base' mg' q.1 q.2) (U : tabU K' fs = true) (hcode : ∀ c, codeOf K' (He.ga K' qn) = some c → X.env.code = .ref c) (hr : Room (k + 2) X.A) (L : LamS X.env.scope scope) (hdef : defaultsOf params X.env = ([], []))
    (hbind : ∀ (q : Str) (cl : List (Str × Addr)) (pm cv ctv : Value), bindArgs (PySem.W.kla_fn "<lambda>" q params body scope cl pm cv ctv) ⟨[], []⟩ = pure [])
    (hbody : ∀ (A : Around) (outer : List Env) (s : Shared) (H : Hp) (E : XK) (f c' : Addr), Room k (A.deeper (lamEnv X scope s.heap.objs.size f c')) → PE (lamCx X A outer s H E scope f c') body (t E))
    (hK : X.K = K' := by rfl) (hM : X.mg = mg' := by rfl) (hB : X.base = base' := by rfl) (hq : X.env.qual = qn ++ ".<locals>." := by rfl)
    (hdb : (x == ("__debug__" : Str)) = false := by decide) (hd : (a == ("__debug__" : Str)) = false := by decide) (hcd : (a == ("__classdict__" : Str)) = false := by decide) :
    PE X (.Call (.Name x p) [.Lambda params body scope lpos] [] pos) (tLam (tabL K' fs) TT t) := by
  subst hK hM hB
  obtain ⟨oc, od, dV, kV, doc, pm, an, cdv, ct, osl, efd, lk, hcg, _⟩ := F.ex
  subst efd
  have hG' : GivesTo X Ng x sg g cdv bg a (X.env.qual ++ "<lambda>") TT := by rw [hq]; exact hG cdv
  have mem : (P, X.env.qual ++ "<lambda>") ∈ tabL X.K fs := by rw [hq]; exact tabL_mem hx e
  exact pe_lamcall hg hm F.kp lk hcg hb Sg hNg hva hG' (TB _ (tabsIn_mem hx e)) (hcode c (codeOf_tab e)) mem (fun q hq ep => tabU_ok U hq mem ep) hr L hdef hbind hbody hdb hd hcd
/-- reading of such a call -/
theorem r_lam {T : List (Addr × Str)} {TT : (XK → Hp → VK → Prop) → Hp → VK → Prop} {t : XK → TE} {σ : L2.St} {H : Hp} {Q : VK} (h : Tabs T H) (q : ∀ H1, Fr T [] H H1 → Tabs T H1 → TT (fun E H' Q' => t E σ H' Q') H1 Q) : tLam T TT t σ H Q := ⟨h, fun H1 e t1 => q H1 (.ext e t1) t1⟩
end LL
/-! LX6: methods without arguments; == with a value of another kind; what a suite asks. -/
namespace LL
open PySem PySem.Spec PyProof.Rows L2 LamX

section
variable {X : Cx} {CX : CXT} {g : Bool} {k : Nat} {f C : Addr} {fd : FuncData} {ps : List Str} {sp : Sp} {dvs : List V} {ds : List Value} {E : XK} {m : Str} {pos apos : Pos} {o : Expr} {ta : TE}
/-- o.m() -/
theorem pg_meth0 {pl : Sem Bool} (he : PE X o ta) (c : Cls X.K C) (hm : Meth X.K C m f) (F : FnG X.prog X.w X.K X.mg X.base CX g k f fd ps sp) (hr : Room k X.A) (hg : Clr g X.A) (hb : Binds X.K fd ps ds) (hd : Vals dvs ds)
    (hx : Passes CX X E)
    (ht : eval (.Call (.Attribute o m apos) [] [] pos) X.env = (do let ov ← eval o X.env; standAt apos.atName; let (f, first) ← holding [ov] (getMethod ov m pl); callWith pos f first (backTo pos (starEach [] X.env)) (backToKw pos (keywordEach [] X.env))) := by rfl) :
    PE X (.Call (.Attribute o m apos) [] [] pos) (tMeth C m sp dvs E ta tNil) := by
  constructor
  intro pins s σ H Q I h
  refine PySem.W.methodCall_KW (pl := pl) (thn (he.run pins s σ H _ I h) ?_) ht
  rintro u s1 ⟨y, H1, I1, ry, a, dx, fs, ey, ea, l, q⟩
  subst ey
  obtain rfl : u = Value.ref a := ry
  refine getmeth_ok I1 ea c hm l (PySem.W.callWith_K0 I1.kIn hm.kp (run_gX (us := [.ref a]) (vs := [.ref a]) F hr hg hb hd hx I1 (.cons rfl .nil) q))
end
/-- x == y by the own __eq__, y of a built-in type -/
def rEqX (K : PySem.W.Frag) (C : Addr) (Ts : List String) (sp : Sp) (E : XK) : R2 := fun x y H Q => ∃ a, x = .ref a ∧ InsAt C H a ∧ (∃ T, TyX K H y (.type T) ∧ T ∈ Ts) ∧ sp [x, y] H Q E
section
variable {X : Cx} {CX : CXT} {g : Bool} {k : Nat} {f C : Addr} {fd : FuncData} {ps : List Str} {sp : Sp} {E : XK} {Ts : List String}
theorem op_eqX (O : EqOwn X.K C f Ts) (F : FnG X.prog X.w X.K X.mg X.base CX g k f fd ps sp) (hr : Room k X.A) (hg : Clr g X.A) (hb : Binds X.K fd ps []) (hx : Passes CX X E) : OpR X (compareOp .Eq) (rEqX X.K C Ts sp E) := by
  intro pins s σ H x y v u Q I rx ry h
  obtain ⟨a, rfl, ⟨dx, fs, ea⟩, ⟨T, ty, hm⟩, q⟩ := h
  obtain rfl : v = Value.ref a := rx
  obtain ⟨ox, od, J⟩ := inst_of I ea
  obtain ⟨m, Fr0⟩ := I.fr
  have body : wpAny (model X.prog X.w) X.A (call (.ref f) [.ref a, u]) (PySem.W.CmpBack (EP X pins σ Q)) X.xe s :=
    wpAny_mono (run_gX (us := [.ref a, u]) (vs := [.ref a, y]) (dvs := []) F hr hg hb .nil hx I (.cons rfl (.cons ry .nil)) q) (fun w s' z => by
      obtain ⟨z1, H', I', r', q'⟩ := z
      exact not_ni r' ⟨z1, H', I', r', q'⟩) fun _ _ z => z
  obtain ⟨P0, Z, p, _⟩ := kit_of I ry ty
  show wpAny (model X.prog X.w) X.A (richCompare .Eq (.ref a) u) (EP X pins σ Q) X.xe s
  exact PySem.W.cmp_K hr.units0 Fr0 I.ok.mod.kin J (Z.ty _ _ I.kIn p) (O.ts T hm) O.at_ O.fn body
end
/-- isinstance(e, c) of the caught error, its class D -/
def rIsED (K : PySem.W.Frag) (a : Addr) (cls : Value) (d : Option Addr) (D : Addr) : List V → Hp → VK → Prop := fun xs H Q => cls = .ref D ∧ ∃ (dd : Addr) (c : V) (cv : Value) (b : Bool) (fs : List (Str × V)), d = some dd ∧ xs = [.ref a, c] ∧ H dd = some (.xd fs) ∧ ClsV c cv ∧ PySem.W.kitOne K (.ref D) cv = some b ∧ Q (.bl b) H
theorem call_isEg {X : Cx} {a D : Addr} {oe : Obj} {cls : Value} {d : Option Addr} {pn : List (Addr × Obj)} (T : ExcC X.K D) (hz : Zc cls d oe) (hf : ∃ vs, oe.data = .fields vs) :
    CallR (X.suite a ((a, oe) :: pn)) (.builtin "isinstance") (rIsED X.K a cls d D) := by
  intro pins s σ H xs us Q I r h
  obtain ⟨rfl, dd, c, cv, b, fs, rfl, rfl, ed, hc, e, q⟩ := h
  exact call_isED T hz hf pins s σ H _ us Q I r ⟨c, cv, b, fs, rfl, ed, fun u ru => hc.eq ru, e, q⟩
/-- a wish that depends on what the body's call may let out -/
theorem pss_ex {X : Cx} {body : List Stmt} {W : WX} {tb : XK → TS} (h : ∀ Ech : XK, (∀ (cls : Value) (d : Option Addr) (σ' : L2.St) (H' : Hp), Ech cls d H' → W cls d σ' H') → PSs X body (tb Ech)) :
    PSs X body (fun D σ H => ∃ Ech : XK, (∀ (cls : Value) (d : Option Addr) (σ' : L2.St) (H' : Hp), Ech cls d H' → W cls d σ' H') ∧ tb Ech D σ H) := by
  constructor
  intro pins s σ H D I q
  obtain ⟨Ech, hW, q⟩ := q
  exact (h Ech hW).run pins s σ H D I q
/-- there are as many slots as names -/
theorem pss_len {X : Cx} {sts : List Stmt} {t : TS} {n : Nat} (e : X.N.length = n) (h : PSs X sts t) : PSs X sts (fun D σ H => σ.length = n → t D σ H) := by
  constructor
  intro pins s σ H D I q
  exact h.run pins s σ H D I (q (I.len.trans e))
theorem three {α : Type} {l : List α} (h : l.length = 3) : ∃ a b c, l = [a, b, c] := by
  match l, h with
  | [a, b, c], _ => exact ⟨a, b, c, rfl⟩
/-! readings -/
section
variable {K : PySem.W.Frag} {a C dd : Addr} {cls : Value} {d : Option Addr} {f : Str} {te : TE} {σ : L2.St} {H : Hp} {Q : VK} {v : V} {z : Str}
theorem r_xf (q : te σ H fun x H1 => x = .ref a ∧ cls = .ref C ∧ ∃ (dd : Addr) (fs : List (Str × V)) (v : V), d = some dd ∧ H1 dd = some (.xd fs) ∧ fs.lookup f = some v ∧ Q v H1) : tXf a cls d C f te σ H Q := q
theorem r_xfAt (h : H dd = some (.xd [(f, v)])) (q : Q v H) : V.ref a = .ref a ∧ Value.ref C = .ref C ∧ ∃ (dd' : Addr) (fs : List (Str × V)) (v : V), some dd = some dd' ∧ H dd' = some (.xd fs) ∧ fs.lookup f = some v ∧ Q v H := ⟨rfl, rfl, dd, _, v, rfl, h, by simp [List.lookup], q⟩
theorem TyX.same {K : PySem.W.Frag} {H H' : Hp} {v : V} {t : Value} (h : TyX K H v t) (s : Same H H') : TyX K H' v t := by
  cases h with
  | base b =>
    refine .base ?_
    cases b with
    | non => exact .non
    | bl y => exact .bl y
    | int i => exact .int i
    | str y => exact .str y
    | flt y => exact .flt y
    | lst e => exact .lst (s _ _ e)
    | frz e => exact .frz (s _ _ e)
    | tup e => exact .tup (s _ _ e)
    | dK e => exact .dK (s _ _ e)
    | dT e => exact .dT (s _ _ e)
    | ins e cl ha hn htk hm => exact .ins (s _ _ e) cl ha hn htk hm
  | byt b => exact .byt b
  | set e => exact .set (s _ _ e)
  | kList e c => exact .kList e c
  | kTuple e c => exact .kTuple e c
  | kDict e c => exact .kDict e c
  | fTuple e => exact .fTuple (s _ _ e)
  | fDict e => exact .fDict (s _ _ e)
theorem r_sl {r : V → Option Int → Option Int → Hp → VK → Prop} {tl th : TO} (q : te σ H fun x H1 => tl σ H1 fun l H2 => th σ H2 fun u H3 => r x l u H3 Q) : L2.tSl r te tl th σ H Q := q
theorem r_noPart {QO : Option Int → Hp → Prop} (q : QO none H) : tNoPart σ H QO := q
theorem r_part {QO : Option Int → Hp → Prop} (q : te σ H fun x H1 => ∃ i, x = .int i ∧ QO (some i) H1) : tPart te σ H QO := q
theorem r_partI {A : Int → Prop} {i : Int} (q : A i) : ∃ j, V.int i = .int j ∧ A j := ⟨i, rfl, q⟩
theorem r_cutS {lo hi : Option Int} (h : z.length ≤ 100000) (q : Q (.str (cutS z lo hi)) H) : rSlS (.str z) lo hi H Q := ⟨z, rfl, Nat.le_trans h (by decide), q⟩
theorem r_chain {r r' : R2} {ta tb tc : TE} (q : ta σ H fun x H1 => tb σ H1 fun y H2 => r x y H2 fun z H3 => ∃ k, z = .bl k ∧ (if k = true then tc σ H3 fun w' H4 => r' y w' H4 Q else Q (.bl false) H3)) : tChain r r' ta tb tc σ H Q := q
theorem r_lenS (h : z.length ≤ 100000) (q : Q (.int z.length) H) : (fun xs H Q => ∃ x n, xs = [x] ∧ LenV K x H n ∧ Q (V.int n) H) [.str z] H Q := ⟨_, _, rfl, ⟨Nat.le_trans h (by decide), rfl⟩, q⟩
theorem q_lenS {A : V → Nat → Prop} (h : z.length ≤ 100000) (q : A (.str z) z.length) : ∃ x n, [V.str z] = [x] ∧ LenV K x H n ∧ A x n := ⟨_, _, rfl, ⟨Nat.le_trans h (by decide), rfl⟩, q⟩
theorem q_lenL {A : V → Nat → Prop} {p : Addr} {xs : List V} (h : SqL K H p xs) (q : A (.ref p) xs.length) : ∃ x n, [V.ref p] = [x] ∧ LenV K x H n ∧ A x n := ⟨_, _, rfl, .inl ⟨xs, h, rfl⟩, q⟩
theorem r_ixS {m : Int} {c : Nat} (h : z.length ≤ 100000) (e : atI z.cps.toList m = some c) (q : Q (.str ⟨#[c]⟩) H) : rIxS (.str z) (.int m) H Q := ⟨z, m, c, rfl, rfl, Nat.le_trans h (by decide), e, q⟩
theorem r_repr (h : RpV K H v z) (q : Q (.str z) H) : rRpV K [v] H Q := ⟨v, z, rfl, h, q⟩
end
end LL
/-! LX7: texts: cut, joined. -/
namespace LL
open PySem PySem.Spec PyProof.Rows L2 TL

theorem len_tl (z : Str) : z.length = (tl z).length := by
  show z.cps.size = z.cps.toList.length
  simp
theorem tl_inj {x y : Str} (h : tl x = tl y) : x = y := by
  cases x with
  | mk a => cases y with
    | mk b =>
      have e : a.toList = b.toList := h
      rw [show a = b from Array.toList_inj.mp e]
theorem tl_app (x y : Str) : tl (x ++ y) = tl x ++ tl y := Array.toList_append
theorem tl_to (z : Str) {m : Nat} (h : m ≤ z.length) : tl (cutS z none (some (m : Int))) = (tl z).take m := by
  unfold cutS
  rw [HT.sIx_nat, HT.sIx_none, Nat.sub_zero, List.drop_zero, Nat.min_eq_left h]
theorem tl_from (z : Str) (m : Nat) : tl (cutS z (some (m : Int)) none) = (tl z).drop m := by
  unfold cutS
  rw [HT.sIx_nat, HT.sIx_none, List.toList_toArray]
  rw [List.take_of_length_le (by simp only [List.length_drop]; rw [← len_tl]; omega)]
  by_cases h : m ≤ z.length
  · rw [Nat.min_eq_left h]
  · rw [Nat.min_eq_right (by omega), len_tl, List.drop_length, List.drop_of_length_le (by rw [← len_tl]; omega)]
theorem len_to (z : Str) {m : Int} (h0 : 0 ≤ m) (h : m ≤ z.length) : ((cutS z none (some m)).length : Int) = m := by
  obtain ⟨k, rfl⟩ := Int.eq_ofNat_of_zero_le h0
  have hk : k ≤ z.length := by omega
  rw [len_tl, tl_to z hk, List.length_take, ← len_tl, Nat.min_eq_left hk]
theorem ok8_tl {x : Str} : Ok8 x ↔ ∀ c ∈ tl x, c < 16 ^ 8 := Iff.rfl
theorem ok8_to {z : Str} (h : Ok8 z) {m : Int} (h0 : 0 ≤ m) (hm : m ≤ z.length) : Ok8 (cutS z none (some m)) := by
  obtain ⟨k, rfl⟩ := Int.eq_ofNat_of_zero_le h0
  intro c hc
  have hc : c ∈ tl (cutS z none (some (k : Int))) := hc
  rw [tl_to z (by omega)] at hc
  exact h c (List.mem_of_mem_take hc)
theorem tl_join0 {y : Str} (hy : tl y = []) (ys : List Str) : tl (Txt.join y ys) = (ys.map tl).flatten := by
  rw [join_eq, tl_join, hy]
  induction ys with
  | nil => rfl
  | cons a r ih =>
    cases r with
    | nil => simp [joinL]
    | cons b r =>
      show tl a ++ ([] ++ joinL [] ((b :: r).map tl)) = _
      rw [List.nil_append, ih]
      rfl
theorem len_join0 {y : Str} (hy : tl y = []) (ys : List Str) : (Txt.join y ys).length = (ys.map (·.length)).sum := by
  rw [len_tl, tl_join0 hy, List.length_flatten, List.map_map]
  congr 1
theorem ok8_join0 {y : Str} (hy : tl y = []) {ys : List Str} (h : ∀ x ∈ ys, Ok8 x) : Ok8 (Txt.join y ys) := by
  intro c hc
  have hc : c ∈ tl (Txt.join y ys) := hc
  rw [tl_join0 hy] at hc
  obtain ⟨l, hl, hm⟩ := List.mem_flatten.mp hc
  obtain ⟨x, hx, rfl⟩ := List.mem_map.mp hl
  exact h x hx c hm
theorem tl_nil : tl (Str.ofString "") = [] := by decide +kernel
/-- single signs -/
def One (z : Str) : Prop := z.length = 1
theorem sum_one {ys : List Str} (h : ∀ x ∈ ys, One x) : (ys.map (·.length)).sum = ys.length := by
  induction ys with
  | nil => rfl
  | cons a r ih =>
    rw [List.map_cons, List.sum_cons, ih fun x hx => h x (List.mem_cons_of_mem _ hx), h a (List.mem_cons_self ..), List.length_cons]
    omega
theorem r_join {K : PySem.W.Frag} {H : Hp} {Q : VK} {a : Str} {p : Addr} {ys : List Str} (h : SqL K H p (ys.map V.str)) (hz : (ys.map (·.length)).sum + ys.length * a.length ≤ 16777216) (q : Q (.str (Txt.join a ys)) H) :
    (fun x xs H Q => ∃ a p, ∃ ys : List Str, x = V.str a ∧ xs = [V.ref p] ∧ (SqL K H p (ys.map V.str) ∨ SqT K H p (ys.map V.str)) ∧ (ys.map (·.length)).sum + ys.length * a.length ≤ 16777216 ∧ Q (V.str (Txt.join a ys)) H) (.str a) [.ref p] H Q := ⟨a, p, ys, rfl, rfl, .inl h, hz, q⟩
end LL
/-! LX8: how long what repr shows is. -/
namespace LL
open PySem PySem.Spec PyProof.Rows L2 TL

mutual
/-- a bound of the text -/
def szD : PyData → Nat
  | .none => 4
  | .bool _ => 5
  | .int _ => 1921
  | .str x => 10 * x.length + 2
  | .list xs => szAll xs + 4
  | .tuple xs => szAll xs + 4
  | .dict _ => 0
def szAll : List PyData → Nat
  | [] => 0
  | x :: xs => szD x + 2 + szAll xs
end
mutual
/-- no dict, strings of signs, ints that may be shown -/
def shwB : PyData → Prop
  | .none => True
  | .bool _ => True
  | .int i => i.natAbs.log2 < 1920
  | .str x => Ok8 x
  | .list xs => shwAll xs
  | .tuple xs => shwAll xs
  | .dict _ => False
def shwAll : List PyData → Prop
  | [] => True
  | x :: xs => shwB x ∧ shwAll xs
end
theorem piled_tuple (ts : List Str) : (tupleText ts).length ≤ piled ts + 4 := by
  unfold tupleText
  rw [strLen_append, strLen_append]
  have e1 : ((("(" : String) : Str)).length = 1 := rfl
  have e3 : (((if ts.length == 1 then ",)" else ")" : String) : Str)).length ≤ 2 := by split <;> decide
  rw [e1]
  cases ts with
  | nil => show 1 + (Str.join ", " []).length + _ ≤ _; have : (Str.join ", " []).length = 0 := rfl; rw [this]; omega
  | cons a r =>
    have := join_length_add (a :: r) (by simp)
    omega
theorem piled_list (ts : List Str) : (listText ts).length ≤ piled ts + 4 := by
  cases ts with
  | nil => rw [listText_nil]; decide
  | cons a r =>
    have e : listText (a :: r) = textFrom 1 (("[" : Str) ++ (if (0 : Nat) > 0 then ", " else "" : String) ++ a) r ++ "]" := rfl
    rw [e, strLen_append, textFrom_length_pos _ _ _ (by decide), strLen_append, strLen_append, piled_cons]
    have e1 : ((("[" : String) : Str)).length = 1 := rfl
    have e2 : ((("]" : String) : Str)).length = 1 := rfl
    have e3 : (((if (0 : Nat) > 0 then ", " else "" : String) : Str)).length = 0 := by decide
    rw [e1, e2, e3]
    omega
mutual
theorem shown_sz : ∀ d : PyData, shwB d → d.shown.length ≤ szD d
  | .none, _ => by simp only [PyData.shown, szD]; decide
  | .bool b, _ => by simp only [PyData.shown, szD]; cases b <;> decide
  | .int i, h => by
    simp only [shwB] at h
    simp only [PyData.shown, szD]
    have := int_text_len_1921 h
    omega
  | .str x, h => by
    simp only [shwB] at h
    simp only [PyData.shown, szD]
    exact h.len
  | .list xs, h => by
    simp only [shwB] at h
    simp only [PyData.shown, szD]
    have := shown_szAll xs h
    have := piled_list (PyData.shownAll xs)
    omega
  | .tuple xs, h => by
    simp only [shwB] at h
    simp only [PyData.shown, szD]
    have := shown_szAll xs h
    have := piled_tuple (PyData.shownAll xs)
    omega
  | .dict _, h => by simp only [shwB] at h
theorem shown_szAll : ∀ xs : List PyData, shwAll xs → piled (PyData.shownAll xs) ≤ szAll xs
  | [], _ => by simp only [PyData.shownAll, szAll]; exact Nat.le_refl _
  | x :: xs, h => by
    simp only [shwAll] at h
    simp only [PyData.shownAll, szAll, piled_cons]
    have := shown_sz x h.1
    have := shown_szAll xs h.2
    omega
end
mutual
theorem showable_of : ∀ d : PyData, shwB d → d.showable = true
  | .none, _ => by simp only [PyData.showable]
  | .bool b, _ => by simp only [PyData.showable]
  | .int i, h => by simp only [shwB] at h; simp only [PyData.showable, decide_eq_true h]
  | .str x, _ => by simp only [PyData.showable]
  | .list xs, h => by simp only [shwB] at h; simp only [PyData.showable]; exact showableAll_of xs h
  | .tuple xs, h => by simp only [shwB] at h; simp only [PyData.showable]; exact showableAll_of xs h
  | .dict _, h => by simp only [shwB] at h
theorem showableAll_of : ∀ xs : List PyData, shwAll xs → PyData.showableAll xs = true
  | [], _ => by simp only [PyData.showableAll]
  | x :: xs, h => by
    simp only [shwAll] at h
    simp only [PyData.showableAll, showable_of x h.1, showableAll_of xs h.2, Bool.and_self]
end
mutual
theorem noDict_of : ∀ d : PyData, shwB d → d.hasDict = false
  | .none, _ => by simp only [PyData.hasDict]
  | .bool b, _ => by simp only [PyData.hasDict]
  | .int i, _ => by simp only [PyData.hasDict]
  | .str x, _ => by simp only [PyData.hasDict]
  | .list xs, h => by simp only [shwB] at h; simp only [PyData.hasDict]; exact noDictAll_of xs h
  | .tuple xs, h => by simp only [shwB] at h; simp only [PyData.hasDict]; exact noDictAll_of xs h
  | .dict _, h => by simp only [shwB] at h
theorem noDictAll_of : ∀ xs : List PyData, shwAll xs → PyData.hasDictAll xs = false
  | [], _ => by simp only [PyData.hasDictAll]
  | x :: xs, h => by
    simp only [shwAll] at h
    simp only [PyData.hasDictAll, noDict_of x h.1, noDictAll_of xs h.2, Bool.or_self]
end
/-- repr of data -/
theorem rpv {K : PySem.W.Frag} {H : Hp} {v : V} {d : PyData} (h : Dp K H v d) (s : shwB d) (h1 : d.depth ≤ 16) (h2 : szD d ≤ 100000) : RpV K H v d.shown :=
  .inl ⟨d, h, showable_of d s, noDict_of d s, h1, rfl, Nat.le_trans (shown_sz d s) (Nat.le_trans h2 (by decide))⟩
theorem shown_le {d : PyData} (s : shwB d) (h : szD d ≤ 100000) : d.shown.length ≤ sizeLine := Nat.le_trans (shown_sz d s) (Nat.le_trans h (by decide))
theorem rpv0 {K : PySem.W.Frag} {H : Hp} {a : Addr} (h : H a = some (.dK [])) : RpV K H (.ref a) (PyData.shown (.dict [])) := .inr ⟨a, rfl, h, rfl⟩
mutual
theorem Dp.same {K : PySem.W.Frag} {H H' : Hp} (s : Same H H') : ∀ (d : PyData) (v : V), Dp K H v d → Dp K H' v d
  | .none, _, h => by cases h; exact .non
  | .bool b, _, h => by cases h; exact .bl b
  | .int i, _, h => by cases h; exact .int i
  | .str x, _, h => by cases h; exact .str x
  | .list xs, _, h => by
    cases h with
    | lst h1 h2 => exact .lst (s.seq h1) (DpAll.same s xs _ h2)
  | .tuple xs, _, h => by
    cases h with
    | tup h1 h2 =>
      refine .tup ?_ (DpAll.same s xs _ h2)
      rcases h1 with (h1 | ⟨o, h1⟩) | h1
      · exact .inl (.inl (s _ _ h1))
      · exact .inl (.inr ⟨o, s _ _ h1⟩)
      · exact .inr h1
  | .dict _, _, h => by cases h
theorem DpAll.same {K : PySem.W.Frag} {H H' : Hp} (s : Same H H') : ∀ (ds : List PyData) (vs : List V), DpAll K H vs ds → DpAll K H' vs ds
  | [], _, h => by cases h; exact .nil
  | d :: ds, _, h => by
    cases h with
    | cons h1 h2 => exact .cons (Dp.same s d _ h1) (DpAll.same s ds _ h2)
end
theorem RpV.same {K : PySem.W.Frag} {H H' : Hp} {v : V} {z : Str} (h : RpV K H v z) (s : Same H H') : RpV K H' v z := by
  rcases h with ⟨d, hd, r⟩ | ⟨a, rfl, e, r⟩
  · exact .inl ⟨d, Dp.same s d v hd, r⟩
  · exact .inr ⟨a, rfl, s _ _ e, r⟩
theorem wCls_yes {K : PySem.W.Frag} {Wo : WX} {D : Ends} {q : Cl} {r : List Cl} {cls : Value} {d : Option Addr} {σ : L2.St} {H : Hp} (e : PySem.W.exmOne K cls q.c = some true) (h : ∀ a, H a = none → q.ts a cls d (endsOff q.i D) (σ.set q.i (some (.ref a))) H) : wCls K Wo D (q :: r) cls d σ H := ⟨true, e, fun _ => h, fun z => absurd z (by decide)⟩
theorem wCls_no {K : PySem.W.Frag} {Wo : WX} {D : Ends} {q : Cl} {r : List Cl} {cls : Value} {d : Option Addr} {σ : L2.St} {H : Hp} (e : PySem.W.exmOne K cls q.c = some false) (h : wCls K Wo D r cls d σ H) : wCls K Wo D (q :: r) cls d σ H := ⟨false, e, fun z => absurd z (by decide), fun _ => h⟩
theorem lk1 (f : Str) (v : V) : [(f, v)].lookup f = some v := by simp [List.lookup]
theorem upd_of {H H' : Hp} {p : Addr} {o : HO} (e : H' p = some o) (ne : ∀ b, b ≠ p → H' b = H b) : H' = upd H p o := by
  funext b
  by_cases h : b = p
  · subst h; rw [e, upd_same]
  · rw [ne b h, upd_ne h]
theorem same_upd {H : Hp} {p : Addr} {o : HO} (h : H p = none) : Same H (upd H p o) := fun b u e => by rw [upd_ne (ne_of_none e h)]; exact e
/-! == and != of data that are alike -/
theorem r_eqDs {K : PySem.W.Frag} {H : Hp} {Q : VK} {x y : V} {d : PyData} (hx : Dp K H x d) (hy : Dp K H y d) (h : SeqAt.shaped d = true) (q : Q (.bl true) H) : rEqD K x y H Q :=
  ⟨d, d, hx, hy, h, h, by rw [SeqAt.eqv_refl d (SeqAt.canLay_of_shaped h)]; exact q⟩
theorem r_neDs {K : PySem.W.Frag} {H : Hp} {Q : VK} {x y : V} {d : PyData} (hx : Dp K H x d) (hy : Dp K H y d) (h : SeqAt.shaped d = true) (q : Q (.bl false) H) : rNeD K x y H Q :=
  ⟨d, d, hx, hy, h, h, by rw [SeqAt.eqv_refl d (SeqAt.canLay_of_shaped h)]; exact q⟩
theorem dp_told {K : PySem.W.Frag} {H : Hp} {t : Addr} {w z : Str} {b : Bool} (h : H t = some (.tup [.str w, .str z, .bl b])) : Dp K H (.ref t) (.tuple [.str w, .str z, .bool b]) :=
  .tup (.inl (.inl h)) (.cons (.str w) (.cons (.str z) (.cons (.bl b) .nil)))
theorem r_dnew {σ : L2.St} {H : Hp} {Q : VK} (q : ∀ p H', H p = none → Same H H' → H' p = some (.dK []) → (∀ b, b ≠ p → H' b = H b) → Q (.ref p) H') : tDNewK σ H Q := fun p hp => q p _ hp (same_upd hp) upd_same fun b hb => upd_ne hb
end LL
/-! LX9: texts of signs below 128; what repr shows of them. -/
namespace LL
open PySem PySem.Spec PyProof.Rows L2 TL PySem.Builtin PySem.Builtin.Str

def Asc (x : Str) : Prop := ∀ c ∈ tl x, c < 128
theorem Asc.ok8 {x : Str} (h : Asc x) : Ok8 x := fun c hc => Nat.lt_trans (h c hc) (by decide)
theorem Asc.strOk {x : Str} (h : Asc x) : PyData.strOk x = true := by
  unfold PyData.strOk
  rw [← Array.all_toList]
  exact List.all_eq_true.mpr fun c hc => decide_eq_true (Nat.lt_trans (h c hc) (by decide))
theorem Asc.app {x y : Str} (hx : Asc x) (hy : Asc y) : Asc (x ++ y) := fun c hc => by
  rw [tl_app] at hc
  exact (List.mem_append.mp hc).elim (hx c) (hy c)
def ascB (x : Str) : Bool := (tl x).all (· < 128)
theorem asc_by {x : Str} (h : ascB x = true) : Asc x := fun c hc => of_decide_eq_true (List.all_eq_true.mp h c hc)
theorem asc_one {c : Nat} (h : c < 128) : Asc ⟨#[c]⟩ := fun d hd => by
  have hd : d ∈ [c] := hd
  rw [List.mem_singleton.mp hd]; exact h
theorem asc_to {z : Str} (h : Asc z) {m : Int} (h0 : 0 ≤ m) (hm : m ≤ z.length) : Asc (cutS z none (some m)) := by
  obtain ⟨k, rfl⟩ := Int.eq_ofNat_of_zero_le h0
  intro c hc
  rw [tl_to z (by omega)] at hc
  exact h c (List.mem_of_mem_take hc)
theorem asc_from {z : Str} (h : Asc z) (k : Nat) : Asc (cutS z (some (k : Int)) none) := by
  intro c hc
  rw [tl_from] at hc
  exact h c (List.mem_of_mem_drop hc)
theorem asc_join0 {y : Str} (hy : tl y = []) {ys : List Str} (h : ∀ x ∈ ys, Asc x) : Asc (Txt.join y ys) := by
  intro c hc
  rw [tl_join0 hy] at hc
  obtain ⟨l, hl, hm⟩ := List.mem_flatten.mp hc
  obtain ⟨x, hx, rfl⟩ := List.mem_map.mp hl
  exact h x hx c hm
theorem asc_nat (n : Nat) : Asc (Str.ofString (toString (n : Int))) := fun c hc => by
  rw [tl_num] at hc
  have := numL_digits n c hc
  omega
theorem asc_int (i : Int) : Asc (Str.ofString (toString i)) := by
  cases i with
  | ofNat n => exact asc_nat n
  | negSucc n =>
    have e : toString (Int.negSucc n) = "-" ++ toString ((n + 1 : Nat) : Int) := by rfl
    have ea : Str.ofString ("-" ++ toString ((n + 1 : Nat) : Int)) = Str.ofString "-" ++ Str.ofString (toString ((n + 1 : Nat) : Int)) := tl_inj (by
      rw [tl_app]
      show (Str.ofString _).cps.toList = (Str.ofString _).cps.toList ++ (Str.ofString _).cps.toList
      rw [signs_ofString, signs_ofString, signs_ofString, String.toList_append, List.map_append])
    rw [e, ea]
    exact Asc.app (asc_by (by decide +kernel)) (asc_nat _)
/-! repr of a text -/
def chB (q c : Nat) : Bool := (reprChar q c).all (· < 128)
theorem ch_all : ∀ c : Nat, c < 128 → chB 39 c = true ∧ chB 34 c = true := by
  have h : (List.range 128).all (fun c => chB 39 c && chB 34 c) = true := by decide +kernel
  intro c hc
  have := List.all_eq_true.mp h c (List.mem_range.mpr hc)
  exact Bool.and_eq_true_iff.mp this
theorem quote_cases (x : Str) : reprQuote x = 39 ∨ reprQuote x = 34 := by
  unfold reprQuote
  split
  · exact .inr rfl
  · exact .inl rfl
theorem fold_asc (q : Nat) (hq : q = 39 ∨ q = 34) : ∀ (l : List Nat) (acc : Array Nat), (∀ c ∈ l, c < 128) → (∀ c ∈ acc.toList, c < 128) → ∀ c ∈ (l.foldl (fun out c => out ++ (reprChar q c).toArray) acc).toList, c < 128
  | [], acc, _, h => h
  | a :: r, acc, hl, h => by
    refine fold_asc q hq r _ (fun c hc => hl c (List.mem_cons_of_mem _ hc)) (fun c hc => ?_)
    rw [Array.toList_append] at hc
    rcases List.mem_append.mp hc with hc | hc
    · exact h c hc
    · obtain ⟨h1, h2⟩ := ch_all a (hl a (List.mem_cons_self ..))
      rcases hq with rfl | rfl
      · exact of_decide_eq_true (List.all_eq_true.mp h1 c hc)
      · exact of_decide_eq_true (List.all_eq_true.mp h2 c hc)
theorem asc_repr {x : Str} (h : Asc x) : Asc (reprText x) := by
  intro c hc
  have e : tl (reprText x) = ((x.cps.foldl (fun out c => out ++ (reprChar (reprQuote x) c).toArray) #[reprQuote x]).push (reprQuote x)).toList := rfl
  rw [e, Array.toList_push, ← Array.foldl_toList] at hc
  have hq : reprQuote x < 128 := by rcases quote_cases x with h | h <;> rw [h] <;> decide
  rcases List.mem_append.mp hc with hc | hc
  · exact fold_asc (reprQuote x) (quote_cases x) x.cps.toList #[reprQuote x] h (fun d hd => by
      have hd : d ∈ [reprQuote x] := hd
      rw [List.mem_singleton.mp hd]; exact hq) c hc
  · rw [List.mem_singleton.mp hc]; exact hq
theorem asc_textFrom : ∀ (ts : List Str) (k : Nat) (acc : Str), Asc acc → (∀ t ∈ ts, Asc t) → Asc (textFrom k acc ts)
  | [], _, acc, h, _ => h
  | t :: r, k, acc, h, ht => by
    refine asc_textFrom r (k + 1) _ (Asc.app (Asc.app h ?_) (ht t (List.mem_cons_self ..))) (fun u hu => ht u (List.mem_cons_of_mem _ hu))
    split <;> exact asc_by (by decide +kernel)
theorem asc_list {ts : List Str} (h : ∀ t ∈ ts, Asc t) : Asc (listText ts) := Asc.app (asc_textFrom ts 0 _ (asc_by (by decide +kernel)) h) (asc_by (by decide +kernel))
theorem asc_join : ∀ {ts : List Str}, (∀ t ∈ ts, Asc t) → Asc (Str.join ", " ts)
  | [], _ => asc_by (by decide +kernel)
  | [x], h => h x (List.mem_cons_self ..)
  | x :: y :: r, h => by
    show Asc (x ++ ", " ++ Str.join ", " (y :: r))
    exact Asc.app (Asc.app (h x (List.mem_cons_self ..)) (asc_by (by decide +kernel))) (asc_join fun t ht => h t (List.mem_cons_of_mem _ ht))
theorem asc_tuple {ts : List Str} (h : ∀ t ∈ ts, Asc t) : Asc (tupleText ts) := by
  unfold tupleText
  refine Asc.app (Asc.app (asc_by (by decide +kernel)) (asc_join h)) ?_
  split <;> exact asc_by (by decide +kernel)
mutual
/-- strings of signs below 128, no dict -/
def ascD : PyData → Prop
  | .none => True
  | .bool _ => True
  | .int _ => True
  | .str x => Asc x
  | .list xs => ascAll xs
  | .tuple xs => ascAll xs
  | .dict _ => False
def ascAll : List PyData → Prop
  | [] => True
  | x :: xs => ascD x ∧ ascAll xs
end
mutual
theorem asc_shown : ∀ d : PyData, ascD d → Asc d.shown
  | .none, _ => by simp only [PyData.shown]; exact asc_by (by decide +kernel)
  | .bool b, _ => by simp only [PyData.shown]; cases b <;> exact asc_by (by decide +kernel)
  | .int i, _ => by simp only [PyData.shown]; exact asc_int i
  | .str x, h => by simp only [ascD] at h; simp only [PyData.shown]; exact asc_repr h
  | .list xs, h => by simp only [ascD] at h; simp only [PyData.shown]; exact asc_list (asc_shownAll xs h)
  | .tuple xs, h => by simp only [ascD] at h; simp only [PyData.shown]; exact asc_tuple (asc_shownAll xs h)
  | .dict _, h => by simp only [ascD] at h
theorem asc_shownAll : ∀ xs : List PyData, ascAll xs → ∀ t ∈ PyData.shownAll xs, Asc t
  | [], _, t, ht => by simp only [PyData.shownAll] at ht; cases ht
  | x :: xs, h, t, ht => by
    simp only [ascAll] at h
    simp only [PyData.shownAll] at ht
    rcases List.mem_cons.mp ht with rfl | ht
    · exact asc_shown x h.1
    · exact asc_shownAll xs h.2 t ht
end
theorem shaped_told {w z : Str} (b : Bool) (hw : Asc w) (hz : Asc z) : SeqAt.shaped (.tuple [.str w, .str z, .bool b]) = true := by
  simp [SeqAt.shaped, PyData.canLay0, PyData.canLayAll0, PyData.depth, PyData.depthAll, hw.strOk, hz.strOk]
/-- the text of repr, in signs below 128 -/
def RpA (K : PySem.W.Frag) (H : Hp) (v : V) (z : Str) : Prop := RpV K H v z ∧ Asc z
theorem rpa {K : PySem.W.Frag} {H : Hp} {v : V} {d : PyData} (h : Dp K H v d) (s : shwB d) (a : ascD d) (h1 : d.depth ≤ 16) (h2 : szD d ≤ 100000) : RpA K H v d.shown := ⟨rpv h s h1 h2, asc_shown d a⟩
theorem rpa0 {K : PySem.W.Frag} {H : Hp} {a : Addr} (h : H a = some (.dK [])) : RpA K H (.ref a) (PyData.shown (.dict [])) := ⟨rpv0 h, asc_by (by decide +kernel)⟩
end LL
namespace LL
theorem log_small {n : Int} (h : n.natAbs < 2 ^ 64) : n.natAbs.log2 < 1920 := Nat.lt_of_lt_of_le (PySem.Flt.log2_lt_of (by decide) h) (by decide)
end LL
namespace LL
open PySem PySem.Spec PyProof.Rows L2
/-! what stays of values when tables change -/
def SamP (H H' : Hp) : Prop := ∀ b o, Pl o → H b = some o → H' b = some o
theorem SamP.of {H H' : Hp} (s : Same H H') : SamP H H' := fun b o _ e => s b o e
theorem Fr.samP {T : List (Addr × Str)} {H H' : Hp} (f : Fr T [] H H') : SamP H H' := fun b o p e => f.at_ e p (fun z => nomatch z)
theorem SamP.seqL {K : PySem.W.Frag} {H H' : Hp} {a : Addr} {xs : List V} (s : SamP H H') (h : SqL K H a xs) : SqL K H' a xs := by
  rcases h with (h | ⟨o, h⟩) | h
  · exact .inl (.inl (s _ _ trivial h))
  · exact .inl (.inr ⟨o, s _ _ trivial h⟩)
  · exact .inr h
theorem SamP.seqT {K : PySem.W.Frag} {H H' : Hp} {a : Addr} {xs : List V} (s : SamP H H') (h : SqT K H a xs) : SqT K H' a xs := by
  rcases h with (h | ⟨o, h⟩) | h
  · exact .inl (.inl (s _ _ trivial h))
  · exact .inl (.inr ⟨o, s _ _ trivial h⟩)
  · exact .inr h
theorem TyX.pl {K : PySem.W.Frag} {H H' : Hp} {v : V} {t : Value} (h : TyX K H v t) (s : SamP H H') : TyX K H' v t := by
  cases h with
  | base b =>
    refine .base ?_
    cases b with
    | non => exact .non
    | bl y => exact .bl y
    | int i => exact .int i
    | str y => exact .str y
    | flt y => exact .flt y
    | lst e => exact .lst (s _ _ trivial e)
    | frz e => exact .frz (s _ _ trivial e)
    | tup e => exact .tup (s _ _ trivial e)
    | dK e => exact .dK (s _ _ trivial e)
    | dT e => exact .dT (s _ _ trivial e)
    | ins e cl ha hn htk hm => exact .ins (s _ _ trivial e) cl ha hn htk hm
  | byt b => exact .byt b
  | set e => exact .set (s _ _ trivial e)
  | kList e c => exact .kList e c
  | kTuple e c => exact .kTuple e c
  | kDict e c => exact .kDict e c
  | fTuple e => exact .fTuple (s _ _ trivial e)
  | fDict e => exact .fDict (s _ _ trivial e)
mutual
theorem Dp.pl {K : PySem.W.Frag} {H H' : Hp} (s : SamP H H') : ∀ (d : PyData) (v : V), Dp K H v d → Dp K H' v d
  | .none, _, h => by cases h; exact .non
  | .bool b, _, h => by cases h; exact .bl b
  | .int i, _, h => by cases h; exact .int i
  | .str x, _, h => by cases h; exact .str x
  | .list xs, _, h => by
    cases h with
    | lst h1 h2 => exact .lst (s.seqL h1) (DpAll.pl s xs _ h2)
  | .tuple xs, _, h => by
    cases h with
    | tup h1 h2 => exact .tup (s.seqT h1) (DpAll.pl s xs _ h2)
  | .dict _, _, h => by cases h
theorem DpAll.pl {K : PySem.W.Frag} {H H' : Hp} (s : SamP H H') : ∀ (ds : List PyData) (vs : List V), DpAll K H vs ds → DpAll K H' vs ds
  | [], _, h => by cases h; exact .nil
  | d :: ds, _, h => by
    cases h with
    | cons h1 h2 => exact .cons (Dp.pl s d _ h1) (DpAll.pl s ds _ h2)
end
theorem RpV.pl {K : PySem.W.Frag} {H H' : Hp} {v : V} {z : Str} (h : RpV K H v z) (s : SamP H H') : RpV K H' v z := by
  rcases h with ⟨d, hd, r⟩ | ⟨a, rfl, e, r⟩
  · exact .inl ⟨d, Dp.pl s d v hd, r⟩
  · exact .inr ⟨a, rfl, s _ _ trivial e, r⟩
end LL
/-! LX10: texts cut at a sign; rows with a length and a check ahead. -/
namespace LL
open PySem PySem.Spec PyProof.Rows L2 TL PySem.Builtin PySem.Builtin.Str

/-- what stands ahead of the first s, and behind it (nothing, if there is none) -/
def bef (s : Nat) (l : List Nat) : List Nat := l.takeWhile (fun c => !decide (c = s))
def aft (s : Nat) (l : List Nat) : List Nat := (l.dropWhile (fun c => !decide (c = s))).drop 1
theorem bef_cons (s c : Nat) (l : List Nat) : bef s (c :: l) = if c = s then [] else c :: bef s l := by
  unfold bef
  rw [List.takeWhile_cons]
  by_cases h : c = s <;> simp [h]
theorem aft_cons (s c : Nat) (l : List Nat) : aft s (c :: l) = if c = s then l else aft s l := by
  unfold aft
  rw [List.dropWhile_cons]
  by_cases h : c = s <;> simp [h]
theorem bef_no (s : Nat) : ∀ l : List Nat, s ∉ bef s l
  | [] => by simp [bef]
  | c :: l => by
    rw [bef_cons]
    split
    · simp
    · next h =>
      intro z
      rcases List.mem_cons.mp z with z | z
      · exact h z.symm
      · exact bef_no s l z
theorem cut_at {s : Nat} : ∀ {l : List Nat}, s ∈ l → l = bef s l ++ s :: aft s l
  | [], h => by simp at h
  | c :: l, h => by
    rw [bef_cons, aft_cons]
    by_cases e : c = s
    · simp [e]
    · rw [if_neg e, if_neg e]
      rcases List.mem_cons.mp h with z | z
      · exact absurd z.symm e
      · rw [List.cons_append, ← cut_at z]
theorem bef_all {s : Nat} : ∀ {l : List Nat}, s ∉ l → bef s l = l
  | [], _ => rfl
  | c :: l, h => by
    rw [List.mem_cons, not_or] at h
    rw [bef_cons, if_neg (fun e => h.1 e.symm), bef_all h.2]
theorem aft_none {s : Nat} : ∀ {l : List Nat}, s ∉ l → aft s l = []
  | [], _ => rfl
  | c :: l, h => by
    rw [List.mem_cons, not_or] at h
    rw [aft_cons, if_neg (fun e => h.1 e.symm), aft_none h.2]
theorem bef_app {s : Nat} : ∀ {p : List Nat} (r : List Nat), s ∉ p → bef s (p ++ s :: r) = p
  | [], r, _ => by rw [List.nil_append, bef_cons, if_pos rfl]
  | c :: p, r, h => by
    rw [List.mem_cons, not_or] at h
    rw [List.cons_append, bef_cons, if_neg (fun e => h.1 e.symm), bef_app r h.2]
theorem aft_app {s : Nat} : ∀ {p : List Nat} (r : List Nat), s ∉ p → aft s (p ++ s :: r) = r
  | [], r, _ => by rw [List.nil_append, aft_cons, if_pos rfl]
  | c :: p, r, h => by
    rw [List.mem_cons, not_or] at h
    rw [List.cons_append, aft_cons, if_neg (fun e => h.1 e.symm), aft_app r h.2]
theorem aft_len (s : Nat) : ∀ l : List Nat, (aft s l).length ≤ l.length
  | [] => by simp [aft]
  | c :: l => by
    rw [aft_cons]
    have := aft_len s l
    split <;> simp only [List.length_cons] <;> omega
theorem aft_lt {s : Nat} {l : List Nat} (h : s ∈ l) : (aft s l).length < l.length := by
  have e := congrArg List.length (cut_at h)
  rw [List.length_append, List.length_cons] at e
  omega
theorem aft_mem {s c : Nat} {l : List Nat} (h : c ∈ aft s l) : c ∈ l := by
  by_cases m : s ∈ l
  · rw [cut_at m]
    exact List.mem_append_right _ (List.mem_cons_of_mem _ h)
  · rw [aft_none m] at h
    simp at h
theorem bef_mem {s c : Nat} {l : List Nat} (h : c ∈ bef s l) : c ∈ l := by
  by_cases m : s ∈ l
  · rw [cut_at m]
    exact List.mem_append_left _ h
  · rw [bef_all m] at h
    exact h
def mkS (l : List Nat) : Str := ⟨l.toArray⟩
theorem tl_mkS (l : List Nat) : tl (mkS l) = l := rfl
theorem mkS_tl (z : Str) : mkS (tl z) = z := ext_tl rfl
theorem part_2 {y : Str} {s : Nat} (ey : tl y = [s]) (a : Str) : (Txt.partition a y).2.2 = mkS (aft s (tl a)) := by
  by_cases m : s ∈ tl a
  · have e : a = mkS (bef s (tl a)) ++ y ++ mkS (aft s (tl a)) := by
      refine ext_tl ?_
      rw [TL.tl_append, TL.tl_append, ey, tl_mkS, tl_mkS, List.append_assoc]
      exact cut_at m
    have h := TL.partition_app (y := y) (S := []) ey (a := mkS (bef s (tl a))) (b := mkS (aft s (tl a))) (bef_no s _)
    rw [← e] at h
    rw [h]
  · rw [TL.partition_none (S := []) ey m, aft_none m]
    exact ext_tl rfl
theorem part_1 {y : Str} {s : Nat} (ey : tl y = [s]) (a : Str) : (Txt.partition a y).1 = mkS (bef s (tl a)) := by
  by_cases m : s ∈ tl a
  · have e : a = mkS (bef s (tl a)) ++ y ++ mkS (aft s (tl a)) := by
      refine ext_tl ?_
      rw [TL.tl_append, TL.tl_append, ey, tl_mkS, tl_mkS, List.append_assoc]
      exact cut_at m
    have h := TL.partition_app (y := y) (S := []) ey (a := mkS (bef s (tl a))) (b := mkS (aft s (tl a))) (bef_no s _)
    rw [← e] at h
    rw [h]
  · rw [TL.partition_none (S := []) ey m, bef_all m]
    exact ext_tl rfl

/-! ### lines -/
def lnsL (l : List Nat) : List (List Nat) := (spl [10] 0 [] l).dropLast
theorem spl_ne (S : List Nat) (k : Nat) (acc l : List Nat) : spl S k acc l ≠ [] := by
  induction l generalizing k acc with
  | nil => rw [spl_nil]; simp
  | cons c l ih =>
    cases k with
    | zero =>
      by_cases h : pre S (c :: l) = true
      · rw [spl_hit h]; simp
      · rw [spl_miss (by simpa using h)]; exact ih 0 _
    | succ k => exact ih k acc
theorem lns_cons {l : List Nat} (h : 10 ∈ l) : lnsL l = bef 10 l :: lnsL (aft 10 l) := by
  unfold lnsL
  conv => lhs; rw [cut_at h]
  have e := spl_part1 (s := 10) (S := []) (p := bef 10 l) (rest := aft 10 l) (acc := []) (bef_no 10 l)
  rw [show ([10] : List Nat) ++ aft 10 l = 10 :: aft 10 l from rfl] at e
  rw [e, List.nil_append, List.dropLast_cons_of_ne_nil (spl_ne _ _ _ _)]
theorem lns_nil {l : List Nat} (h : 10 ∉ l) : lnsL l = [] := by
  unfold lnsL
  rw [spl_last1 (S := []) h]
  rfl
theorem lns_app {p : List Nat} (h : 10 ∉ p) (r : List Nat) : lnsL (p ++ 10 :: r) = p :: lnsL r := by
  rw [lns_cons (by simp), bef_app r h, aft_app r h]
theorem split_lns {y : Str} (ey : tl y = [10]) (a : Str) : ((Txt.split a y).map tl) = spl [10] 0 [] (tl a) := by
  rw [split_spl a y (by rw [ey]; simp) (kind_ok ?_), ey]
  rw [← Array.all_toList]
  show (tl y).all _ = true
  rw [ey]; rfl

/-! ### rows -/
def chkN (l : List Nat) : Nat := l.foldl (fun c s => (31 * c + s) % 1000003) 7
def rowL (r : List Nat) : List Nat := numL r.length ++ 32 :: (numL (chkN r) ++ 32 :: (r ++ [10]))
def recL (l : List Nat) : List Nat := aft 32 (aft 32 l)
def okL (l : List Nat) : Bool := decide (rowL (recL l) = l ++ [10])
/-- the records of the lines ahead of the first that is no row -/
def whoL (ls : List (List Nat)) : List (List Nat) := (ls.takeWhile okL).map recL
theorem chk_lt (l : List Nat) : chkN l < 1000003 := by
  unfold chkN
  suffices h : ∀ (l : List Nat) (k : Nat), k < 1000003 → l.foldl (fun c s => (31 * c + s) % 1000003) k < 1000003 from h l 7 (by decide)
  intro l
  induction l with
  | nil => exact fun k hk => hk
  | cons c l ih => exact fun k _ => ih _ (Nat.mod_lt _ (by decide))
theorem rec_row (n m : Nat) (r : List Nat) : recL (numL n ++ 32 :: (numL m ++ 32 :: r)) = r := by
  unfold recL
  rw [aft_app _ (numL_free (by decide)), aft_app _ (numL_free (by decide))]
theorem row_line (r : List Nat) : rowL r = (numL r.length ++ 32 :: (numL (chkN r) ++ 32 :: r)) ++ [10] := by
  unfold rowL
  simp
/-- the row of r without its line feed -/
def linL (r : List Nat) : List Nat := numL r.length ++ 32 :: (numL (chkN r) ++ 32 :: r)
theorem ok_lin (r : List Nat) : okL (linL r) = true := by
  unfold okL linL
  rw [rec_row, row_line]
  exact decide_eq_true rfl
theorem ok_iff {l : List Nat} : okL l = true ↔ ∃ r, l = linL r := by
  constructor
  · intro h
    have h := of_decide_eq_true h
    rw [row_line] at h
    exact ⟨recL l, (List.append_cancel_right h).symm⟩
  · rintro ⟨r, rfl⟩; exact ok_lin r
theorem lin_free {r : List Nat} (h : 10 ∉ r) : 10 ∉ linL r := by
  unfold linL
  simp only [List.mem_append, List.mem_cons, not_or]
  exact ⟨numL_free (by decide), by decide, numL_free (by decide), by decide, h⟩
theorem who_rows : ∀ (rs : List (List Nat)) (l : List Nat), (∀ r ∈ rs, 10 ∉ r) → whoL (lnsL ((rs.map rowL).flatten ++ l)) = rs ++ whoL (lnsL l)
  | [], l, _ => by simp
  | r :: rs, l, h => by
    rw [List.map_cons, List.flatten_cons, row_line, ← linL, List.append_assoc, List.append_assoc, List.singleton_append, lns_app (lin_free (h r (List.mem_cons_self ..)))]
    unfold whoL
    rw [List.takeWhile_cons, if_pos (ok_lin r), List.map_cons]
    have := who_rows rs l fun x hx => h x (List.mem_cons_of_mem _ hx)
    unfold whoL at this
    rw [this]
    unfold linL
    rw [rec_row]
    rfl

/-! ### loops over texts -/
section
variable {g : TG} {tb : TS} {tt : TT} {te : TE} {n : L2.St → Hp → Prop} {r : VK} {σ : L2.St} {H H1 : Hp} {Q : VK} {is : List Nat} {K : PySem.W.Frag}
theorem u_str {z : Str} (Pv : Nat → L2.St → Hp → Prop) (h0 : Pv 0 σ H) (hs : ∀ i c σ H, (TL.tl z)[i]? = some c → Pv i σ H → g (.str ⟨#[c]⟩) σ H fun σ2 H2 => tb { nx := Pv (i + 1), rt := r, bk := n, ct := Pv (i + 1) } σ2 H2)
    (hd : ∀ σ H, Pv (TL.tl z).length σ H → n σ H) : ForK g tb n r σ (Its z) H :=
  for_it (D := { nx := n, rt := r }) walk_str Pv h0 (fun _ _ _ _ _ => trivial) (fun i x σ H H' hi p y => by
    obtain ⟨rfl, c, ec, rfl⟩ := y
    exact hs i c σ H' (by rw [← ec]; exact Array.getElem?_toList) p) (fun σ H p => hd σ H (by rw [Array.length_toList]; exact p))
theorem u_list {a : Addr} {xs : List V} (Pv : Nat → L2.St → Hp → Prop) (h0 : Pv 0 σ H) (hl : ∀ i σ H, i ≤ xs.length → Pv i σ H → SqL K H a xs)
    (hs : ∀ i x σ H, xs[i]? = some x → Pv i σ H → g x σ H fun σ2 H2 => tb { nx := Pv (i + 1), rt := r, bk := n, ct := Pv (i + 1) } σ2 H2)
    (hd : ∀ σ H, Pv xs.length σ H → n σ H) : ForK g tb n r σ (Itl K a) H :=
  for_it (D := { nx := n, rt := r }) walk_list Pv h0 hl (fun i x σ H H' hi p y => by
    obtain ⟨rfl, ex⟩ := y
    exact hs i x σ H' ex p) hd
theorem u_lcSf {z : Str} (q : ∀ D H0, H1 D = none → Same H1 H0 → H0 D = some (.lst []) → (∀ b, b ≠ D → H0 b = H1 b) → ∃ Pv : Nat → Hp → Prop, Pv 0 H0 ∧ (∀ i c H, (TL.tl z)[i]? = some c → Pv i H → g (.str ⟨#[c]⟩) (wipe σ is) H fun σ2 H2 => wipe σ2 is = wipe σ is ∧ tt σ2 H2 fun b H3 =>
      if b = true then te σ2 H3 (Grow D (Pv (i + 1))) else Pv (i + 1) H3) ∧ ∀ H, Pv (TL.tl z).length H → Q (.ref D) H) : LcK g tt te is σ Q (Its z) H1 := by
  intro D hD
  obtain ⟨Pv, h0, hs, hd⟩ := q D _ hD (fun b o e => by rw [upd_ne (ne_of_none e hD)]; exact e) upd_same fun b hb => upd_ne hb
  refine lc_it walk_str Pv h0 (fun _ _ _ _ => trivial) (fun i x H H' hi p y => ?_) (fun H p => hd H (by rw [Array.length_toList]; exact p))
  obtain ⟨rfl, c, ec, rfl⟩ := y
  exact hs i c H' (by rw [← ec]; exact Array.getElem?_toList) p
end
theorem six_neg (n d : Nat) : HT.sIx n d (some (-1)) = n - 1 := by
  show (if (-1 : Int) < 0 then (-1 + (n : Int)).toNat else min (-1 : Int).toNat n) = n - 1
  rw [if_pos (by decide)]
  omega
theorem tl_ini (z : Str) : TL.tl (cutS z none (some (-1))) = (TL.tl z).dropLast := by
  unfold cutS
  rw [HT.sIx_none, six_neg, Nat.sub_zero, List.drop_zero, List.dropLast_eq_take, ← TL.len_tl]
theorem cut_ini (xs : List V) : cutV xs none (some (-1)) = xs.dropLast := by
  unfold cutV
  rw [HT.sIx_none, six_neg, Nat.sub_zero, List.drop_zero, List.dropLast_eq_take]
theorem r_slL {K : PySem.W.Frag} {H : Hp} {Q : VK} {a : Addr} {xs : List V} {lo hi : Option Int} (h : SqL K H a xs) (q : ∀ p H', H p = none → Same H H' → H' p = some (.lst (cutV xs lo hi)) → (∀ b, b ≠ p → H' b = H b) → Q (.ref p) H') : rSlL K (.ref a) lo hi H Q :=
  ⟨a, xs, rfl, h, fun p hp => q p _ hp (same_upd hp) upd_same fun b hb => upd_ne hb⟩
theorem r_strs {H : Hp} {Q : VK} {ys : List Str} (q : ∀ p H', H p = none → Same H H' → H' p = some (.lst (ys.map V.str)) → (∀ b, b ≠ p → H' b = H b) → Q (.ref p) H') : rNewStrs ys H Q :=
  fun p hp => q p _ hp (same_upd hp) upd_same fun b hb => upd_ne hb
theorem r_its {te : TE} {σ : L2.St} {H : Hp} {R : It → Hp → Prop} (q : te σ H fun v H1 => ∃ x, v = .str x ∧ R (Its x) H1) : iStr te σ H R := q
theorem q_its {z : Str} {A : Str → Prop} (q : A z) : ∃ x, V.str z = .str x ∧ A x := ⟨z, rfl, q⟩
theorem q_fmtI {m : Int} {A : Str → Prop} {C : Int → Prop} (h : m.natAbs.log2 < 1920) (q : C m) : (∃ y : Str, V.int m = .str y ∧ y.length ≤ sizeLine ∧ A y) ∨ ∃ i : Int, V.int m = .int i ∧ i.natAbs.log2 < 1920 ∧ C i := .inr ⟨m, rfl, h, q⟩
theorem q_fmtS {z : Str} {A : Str → Prop} {C : Int → Prop} (h : z.length ≤ sizeLine) (q : A z) : (∃ y : Str, V.str z = .str y ∧ y.length ≤ sizeLine ∧ A y) ∨ ∃ i : Int, V.str z = .int i ∧ i.natAbs.log2 < 1920 ∧ C i := .inl ⟨z, rfl, h, q⟩
theorem q_js {z : Str} {A B : Str → Prop} (h : A z) (q : B z) : ∃ y : Str, V.str z = .str y ∧ A y ∧ B y := ⟨z, rfl, h, q⟩
theorem tl_toS (n : Nat) : TL.tl (Str.ofString (toString ((n : Nat) : Int))) = numL n := tl_num n
theorem q_str {K : PySem.W.Frag} {H : Hp} {z : Str} {A : Prop} (q : A) : tyV K "str" (.str z) H ∧ A := ⟨rfl, q⟩
theorem tl_inj2 {a b : List Nat} : (mkS a = mkS b) ↔ a = b := ⟨fun e => congrArg TL.tl e, fun e => by rw [e]⟩
theorem part_heap {H : Hp} {a b : Str} {s : Nat} {p : Addr} (eb : TL.tl b = [s]) (hp : H p = none) : ∃ H' m, upd H p (.tup [.str (Txt.partition a b).1, .str (Txt.partition a b).2.1, .str (Txt.partition a b).2.2]) = H' ∧ Same H H' ∧
    H' p = some (.tup [.str (mkS (bef s (TL.tl a))), .str m, .str (mkS (aft s (TL.tl a)))]) :=
  ⟨_, (Txt.partition a b).2.1, rfl, same_upd hp, by rw [upd_same, part_1 eb, part_2 eb]⟩
theorem lns_mem : ∀ (n : Nat) {x l : List Nat}, x.length ≤ n → l ∈ lnsL x → 10 ∉ l ∧ (∀ c ∈ l, c ∈ x) ∧ l.length ≤ x.length
  | n, x, l, hn, h => by
    by_cases m : 10 ∈ x
    · rw [lns_cons m] at h
      have lt := aft_lt m
      have e := congrArg List.length (cut_at m)
      rw [List.length_append, List.length_cons] at e
      rcases List.mem_cons.mp h with rfl | h
      · exact ⟨bef_no 10 x, fun c => bef_mem, by omega⟩
      · match n with
        | 0 => omega
        | n + 1 =>
          obtain ⟨a, b, c⟩ := lns_mem n (by omega) h
          exact ⟨a, fun k hk => aft_mem (b k hk), by omega⟩
    · rw [lns_nil m] at h
      simp at h
theorem lns_cnt (x : List Nat) : (lnsL x).length ≤ x.length := by
  suffices h : ∀ n (x : List Nat), x.length ≤ n → (lnsL x).length ≤ x.length from h _ x (Nat.le_refl _)
  intro n
  induction n with
  | zero =>
    intro x hx
    rw [List.eq_nil_of_length_eq_zero (by omega : x.length = 0), lns_nil (by simp)]
    simp
  | succ n ih =>
    intro x hx
    by_cases m : 10 ∈ x
    · rw [lns_cons m]
      have lt := aft_lt m
      have := ih (aft 10 x) (by omega)
      rw [List.length_cons]
      omega
    · rw [lns_nil m]; simp
theorem lns_strs {y : Str} (ey : TL.tl y = [10]) (a : Str) : (Txt.split a y).dropLast = (lnsL (TL.tl a)).map mkS := by
  refine TL.map_tl_inj ?_
  rw [List.map_map, List.map_dropLast, split_lns ey]
  show lnsL (TL.tl a) = (lnsL (TL.tl a)).map (fun l => l)
  rw [List.map_id']
theorem who_step {ls : List (List Nat)} {i : Nat} {l : List Nat} (h : ls[i]? = some l) : whoL (ls.drop i) = if okL l = true then recL l :: whoL (ls.drop (i + 1)) else [] := by
  obtain ⟨hi, e⟩ := List.getElem?_eq_some_iff.mp h
  rw [List.drop_eq_getElem_cons hi, e]
  unfold whoL
  rw [List.takeWhile_cons]
  split <;> simp_all
theorem rec_mem {c : Nat} {l : List Nat} (h : c ∈ recL l) : c ∈ l := aft_mem (aft_mem h)
theorem rec_len (l : List Nat) : (recL l).length ≤ l.length := Nat.le_trans (aft_len _ _) (aft_len _ _)
theorem same_none {H H' : Hp} {p : Addr} (s : Same H H') (h : H' p = none) : H p = none := by
  cases e : H p with
  | none => rfl
  | some o =>
    have := s _ _ e
    rw [h] at this
    cases this
theorem same_put {H H1 H2 : Hp} {D : Addr} (s : Same H H1) (hD : H D = none) (ne : ∀ b, b ≠ D → H2 b = H1 b) : Same H H2 := fun b o e => by rw [ne b (ne_of_none e hD)]; exact s b o e
theorem r_brk {n b c : L2.St → Hp → Prop} {r : VK} {σ : L2.St} {H : Hp} (q : b σ H) : tBreak { nx := n, rt := r, bk := b, ct := c } σ H := q
theorem q_grown {l : Addr} {xs : List V} {y : V} {H : Hp} {Q : VK} (h : H l = some (.lst xs)) (hz : xs.length < 100000) (q : ∀ H2, H2 l = some (.lst (xs ++ [y])) → (∀ b, b ≠ l → H2 b = H b) → Q .non H2) : rAppend (.ref l) [y] H Q := r_append h (Nat.lt_of_lt_of_le hz (by decide)) (q _ upd_same fun b hb => upd_ne hb)
theorem chk_step {l : List Nat} {i c : Nat} (h : l[i]? = some c) : chkN (l.take (i + 1)) = (31 * chkN (l.take i) + c) % 1000003 := by
  unfold chkN
  rw [List.take_add_one, h, List.foldl_append]
  rfl
end LL
/-! LX11: split with a limit, index: by what stands ahead of a sign and behind it. -/
namespace LL
open PySem PySem.Spec PyProof.Rows L2 TL PySem.Builtin PySem.Builtin.Str PySem.StrLaws

theorem lim_run (s sub : Str) (hi limit lo : Nat) (hw : 1 ≤ sub.length) : ∀ (m cur : Nat) (st : Array Nat × Nat), ChainG s sub hi lo st.fst.toList st.snd → (st.fst.size < limit → ∀ k, st.snd ≤ k → k < cur → ¬ At s sub hi k) → st.fst.size ≤ limit →
    ChainG s sub hi lo (forIn (List.range' cur m) st (occBody s sub hi limit)).run.fst.toList (forIn (List.range' cur m) st (occBody s sub hi limit)).run.snd ∧
    (forIn (List.range' cur m) st (occBody s sub hi limit)).run.fst.size ≤ limit ∧
    ((forIn (List.range' cur m) st (occBody s sub hi limit)).run.fst.size < limit → ∀ k, (forIn (List.range' cur m) st (occBody s sub hi limit)).run.snd ≤ k → k < cur + m → ¬ At s sub hi k)
  | 0, cur, st, h, hn, hl => ⟨h, hl, hn⟩
  | m + 1, cur, st, h, hn, hl => by
    rw [List.range'_succ, List.forIn_cons]
    unfold occBody
    have e : cur + (m + 1) = (cur + 1) + m := by omega
    rw [e]
    split
    · rename_i hc
      refine lim_run s sub hi limit lo hw m (cur + 1) _ ?_ ?_ ?_
      · show ChainG s sub hi lo (st.fst.push cur).toList (cur + sub.length)
        rw [Array.toList_push]
        exact chainG_snoc h hc.1.1.2 ⟨hc.1.2, hc.2⟩ (fun k h1 h2 => hn hc.1.1.1 k h1 h2)
      · intro _ k h1 h2
        have h1' : cur + sub.length ≤ k := h1
        omega
      · show (st.fst.push cur).size ≤ limit
        rw [Array.size_push]
        have := hc.1.1.1
        omega
    · rename_i hc
      refine lim_run s sub hi limit lo hw m (cur + 1) _ h ?_ hl
      intro hs k h1 h2 hA
      by_cases hk : k < cur
      · exact hn hs k h1 hk hA
      · have ek : k = cur := by omega
        subst ek
        exact hc ⟨⟨⟨hs, h1⟩, hA.1⟩, hA.2⟩
theorem occ_lim (x y : Str) (limit : Nat) (hw : 1 ≤ y.length) : ∃ f, ChainG x y x.length 0 (occurrences x y 0 x.length limit) f ∧ (occurrences x y 0 x.length limit).length ≤ limit ∧
    ((occurrences x y 0 x.length limit).length < limit → ∀ k, f ≤ k → ¬ At x y x.length k) := by
  rw [occ_eq]
  have key := lim_run x y x.length limit 0 hw (x.length + 1 - 0) 0 ((#[] : Array Nat), 0) rfl (fun _ k _ h => by omega) (by simp)
  refine ⟨_, key.1, ?_, fun hs k hk hA => ?_⟩
  · rw [Array.length_toList]; exact key.2.1
  · rw [Array.length_toList] at hs
    exact key.2.2 hs k hk (by have := hA.1; omega) hA
theorem at_one {x y : Str} {s : Nat} (ey : tl y = [s]) (k : Nat) : At x y x.length k ↔ (tl x)[k]? = some s := by
  rw [at_iff (by rw [ey]; simp) k, ey]
  unfold pre
  rw [List.length_singleton]
  cases hd : (tl x).drop k with
  | nil =>
    have : (tl x)[k]? = none := by
      rw [List.drop_eq_nil_iff] at hd
      exact List.getElem?_eq_none hd
    rw [this]
    simp
  | cons c r =>
    have : (tl x)[k]? = some c := by
      rw [← List.head?_drop, hd]
      rfl
    rw [this]
    simp
/-- the first s at or behind a stands at c -/
theorem cut_from {l : List Nat} {s a c : Nat} (ac : a ≤ c) (hc : l[c]? = some s) (hn : ∀ k, a ≤ k → k < c → l[k]? ≠ some s) :
    bef s (l.drop a) = (l.drop a).take (c - a) ∧ aft s (l.drop a) = l.drop (c + 1) ∧ s ∈ l.drop a := by
  obtain ⟨hl, ec⟩ := List.getElem?_eq_some_iff.mp hc
  have e : l.drop a = (l.drop a).take (c - a) ++ s :: l.drop (c + 1) := by
    have e1 := (List.take_append_drop (c - a) (l.drop a)).symm
    rw [List.drop_drop, show a + (c - a) = c from by omega, List.drop_eq_getElem_cons hl, ec] at e1
    exact e1
  have no : s ∉ (l.drop a).take (c - a) := by
    intro hm
    obtain ⟨j, hj⟩ := List.getElem?_of_mem hm
    have hlt : j < c - a := by
      have h1 : j < ((l.drop a).take (c - a)).length := (List.getElem?_eq_some_iff.mp hj).1
      rw [List.length_take] at h1
      omega
    rw [List.getElem?_take_of_lt hlt, List.getElem?_drop] at hj
    exact hn (a + j) (by omega) (by omega) hj
  refine ⟨?_, ?_, ?_⟩
  · conv => lhs; rw [e]
    exact bef_app _ no
  · conv => lhs; rw [e]
    exact aft_app _ no
  · rw [e]; simp
theorem no_from {l : List Nat} {s a : Nat} (hn : ∀ k, a ≤ k → l[k]? ≠ some s) : s ∉ l.drop a := by
  intro hm
  obtain ⟨j, hj⟩ := List.getElem?_of_mem hm
  rw [List.getElem?_drop] at hj
  exact hn (a + j) (by omega) hj
theorem index_bef {x y : Str} {s : Nat} (ey : tl y = [s]) (h : s ∈ tl x) : ∃ rest, occurrences x y 0 x.length 1 = (bef s (tl x)).length :: rest := by
  have ly : y.length = 1 := by rw [len_tl, ey]; rfl
  obtain ⟨f, ch, le, no⟩ := occ_lim x y 1 (by omega)
  cases ho : occurrences x y 0 x.length 1 with
  | nil =>
    rw [ho] at ch no
    have e : f = 0 := ch
    have hn := no_from (l := tl x) (s := s) (a := 0) (fun k _ e => no (by simp) k (by omega) ((at_one ey k).mpr e))
    rw [List.drop_zero] at hn
    exact absurd h hn
  | cons c rest =>
    rw [ho] at ch
    obtain ⟨_, hA, hn, _⟩ := ch
    obtain ⟨e1, _, _⟩ := cut_from (l := tl x) (s := s) (a := 0) (Nat.zero_le c) ((at_one ey c).mp hA) (fun k _ hk e => hn k (Nat.zero_le _) hk ((at_one ey k).mpr e))
    rw [List.drop_zero, Nat.sub_zero] at e1
    have hl := (List.getElem?_eq_some_iff.mp ((at_one ey c).mp hA)).1
    exact ⟨rest, by rw [e1, List.length_take, Nat.min_eq_left (by omega)]⟩
theorem split_two {x y : Str} {s : Nat} (ey : tl y = [s]) (hs : s < 256) : ((Txt.splitMax x y 2).length < 3 ∧ ¬ (s ∈ tl x ∧ s ∈ aft s (tl x))) ∨
    (∃ a b, Txt.splitMax x y 2 = [a, b, mkS (aft s (aft s (tl x)))] ∧ s ∈ tl x ∧ s ∈ aft s (tl x)) := by
  have ly : y.length = 1 := by rw [len_tl, ey]; rfl
  obtain ⟨f, ch, le, no⟩ := occ_lim x y 2 (by omega)
  have hk : ¬ Builtin.Str.strKind x < Builtin.Str.strKind y := kind_ok (by
    rw [← Array.all_toList]
    show (tl y).all _ = true
    rw [ey]
    simpa using hs)
  unfold Txt.splitMax
  rw [show limitOf x 2 = 2 from rfl]
  by_cases h1 : (decide (x.length < y.length) || decide (Builtin.Str.strKind x < Builtin.Str.strKind y)) = true
  · rw [if_pos h1]
    left
    refine ⟨by simp, fun z => ?_⟩
    have hlt : x.length < y.length := by
      simp only [Bool.or_eq_true, decide_eq_true_eq] at h1
      rcases h1 with h | h
      · exact h
      · exact absurd h hk
    have e : tl x = [] := by
      apply List.eq_nil_of_length_eq_zero
      rw [← len_tl]; omega
    rw [e] at z
    simp at z
  · rw [if_neg h1]
    cases ho : occurrences x y 0 x.length 2 with
    | nil =>
      rw [if_pos (show ([] : List Nat).isEmpty = true from rfl)]
      rw [ho] at ch no
      have e : f = 0 := ch
      have hn := no_from (l := tl x) (s := s) (a := 0) (fun k _ e => no (by simp) k (by omega) ((at_one ey k).mpr e))
      rw [List.drop_zero] at hn
      exact .inl ⟨by simp, fun z => hn z.1⟩
    | cons c rest =>
      rw [if_neg (by simp), partsBetween_eq]
      rw [ho] at ch no le
      obtain ⟨_, hA, hn, ch⟩ := ch
      obtain ⟨e1, e2, e3⟩ := cut_from (l := tl x) (s := s) (a := 0) (Nat.zero_le c) ((at_one ey c).mp hA) (fun k _ hk e => hn k (Nat.zero_le _) hk ((at_one ey k).mpr e))
      rw [List.drop_zero] at e1 e2 e3
      cases rest with
      | nil =>
        have e : f = c + y.length := ch
        have hn := no_from (l := tl x) (s := s) (a := c + 1) (fun k hk e2 => no (by simp) k (by omega) ((at_one ey k).mpr e2))
        rw [← e2] at hn
        exact .inl ⟨by simp [partsFrom], fun z => hn z.2⟩
      | cons d rest =>
        have er : rest = [] := by
          have : rest.length + 1 + 1 ≤ 2 := le
          exact List.eq_nil_of_length_eq_zero (by omega)
        subst er
        obtain ⟨cd, hB, hm, _⟩ := ch
        rw [ly] at cd hm
        obtain ⟨g1, g2, g3⟩ := cut_from (l := tl x) (s := s) (a := c + 1) cd ((at_one ey d).mp hB) (fun k k1 hk e => hm k k1 hk ((at_one ey k).mpr e))
        rw [← e2] at g1 g2 g3
        refine .inr ⟨strSub x 0 c, strSub x (c + 1) d, ?_, e3, g3⟩
        rw [g2, ly]
        show [strSub x 0 c, strSub x (c + 1) d, strSub x (d + 1) x.length] = _
        rw [show strSub x (d + 1) x.length = mkS ((tl x).drop (d + 1)) from ext_tl (tl_strSub_end x (d + 1))]
theorem two_spaces {l : List Nat} (h : okL l = true) : 32 ∈ l ∧ 32 ∈ aft 32 l := by
  obtain ⟨r, rfl⟩ := ok_iff.mp h
  unfold linL
  rw [aft_app _ (numL_free (by decide))]
  simp
theorem take_bef {s : Nat} {l : List Nat} (h : s ∈ l) : l.take (bef s l).length = bef s l := by
  conv => lhs; rw [cut_at h]
  have : bef s (bef s l ++ s :: aft s l) = bef s l := bef_app _ (bef_no s l)
  rw [this, List.take_left]
theorem drop_bef {s : Nat} {l : List Nat} (h : s ∈ l) : l.drop ((bef s l).length + 1) = aft s l := by
  conv => lhs; rw [cut_at h]
  have : bef s (bef s l ++ s :: aft s l) = bef s l := bef_app _ (bef_no s l)
  rw [this, ← List.drop_drop, List.drop_left]
  rfl
theorem who_cons {l : List Nat} (h : 10 ∈ l) : whoL (lnsL l) = if okL (bef 10 l) = true then recL (bef 10 l) :: whoL (lnsL (aft 10 l)) else [] := by
  rw [lns_cons h]
  unfold whoL
  rw [List.takeWhile_cons]
  split <;> simp_all
/-! ### a text many times -/
def repS (z : Str) (k : Nat) : Str := ⟨(List.replicate k z.cps).foldl (· ++ ·) #[]⟩
theorem tl_rep (z : Str) (k : Nat) : TL.tl (repS z k) = (List.replicate k (TL.tl z)).flatten := by
  suffices h : ∀ (ls : List (Array Nat)) (a : Array Nat), (ls.foldl (· ++ ·) a).toList = a.toList ++ (ls.map Array.toList).flatten by
    show ((List.replicate k z.cps).foldl (· ++ ·) #[]).toList = _
    rw [h, List.map_replicate]
    rfl
  intro ls
  induction ls with
  | nil => intro a; simp
  | cons b ls ih => intro a; rw [List.foldl_cons, ih, Array.toList_append]; simp
theorem len_rep (z : Str) (k : Nat) : (repS z k).length = z.length * k := by
  rw [TL.len_tl, tl_rep, TL.len_tl]
  induction k with
  | zero => simp
  | succ k ih => rw [List.replicate_succ, List.flatten_cons, List.length_append, ih, Nat.mul_succ]; omega
section
variable {X : Cx}
theorem op_mul_str : OpR X (binaryOp .Mult) (fun x y H Q => ∃ (z : Str) (n : Int), x = .str z ∧ y = .int n ∧ 2 ≤ n ∧ n ≤ 10000 ∧ 1 ≤ z.length ∧ z.length ≤ 100 ∧ Q (.str (repS z n.toNat)) H) := by
  intro pins s σ H x y v u Q I rx ry h
  obtain ⟨z, n, rfl, rfl, n2, n3, z1, z2, q⟩ := h
  obtain ⟨t, rfl⟩ := rx
  obtain ⟨t', rfl⟩ := ry
  refine PySem.P.mul_str ?_ ?_ ?_ ?_
  · rw [decide_eq_false (by omega), decide_eq_false (by omega)]; rfl
  · intro _ _ h
    have : (100 : Int) ≤ (2 ^ 63 - 1) / n := by
      rw [Int.le_ediv_iff_mul_le (by omega)]
      omega
    omega
  · intro _ _
    have h1 : z.length * n.toNat ≤ 100 * 10000 := Nat.mul_le_mul z2 (by omega)
    exact decide_eq_false (fun h => absurd (Nat.lt_of_lt_of_le h h1) (by decide))
  · rw [if_neg (by omega), if_neg (by simp; omega)]
    have hl : (repS z n.toNat).length ≤ 1000000 := by
      have := len_rep z n.toNat
      have h1 : z.length * n.toNat ≤ 100 * 10000 := Nat.mul_le_mul z2 (by omega)
      omega
    refine ⟨?_, ⟨.str (repS z n.toNat), H, I.tok _, ⟨_, rfl⟩, q⟩⟩
    exact Nat.le_trans hl (by decide)
end
/-! ### parts of texts and lists -/
theorem asc_cut {z : Str} (h : Asc z) (lo hi : Option Int) : Asc (cutS z lo hi) := fun c hc => by
  unfold cutS at hc
  exact h c (List.mem_of_mem_drop (List.mem_of_mem_take hc))
theorem len_cut (z : Str) (lo hi : Option Int) : (cutS z lo hi).length ≤ z.length := by
  rw [TL.len_tl, TL.len_tl]
  unfold cutS
  show (((TL.tl z).drop _).take _).length ≤ _
  rw [List.length_take, List.length_drop]
  omega
theorem cut_strs (rs : List Str) (lo hi : Option Int) : ∃ rs' : List Str, cutV (rs.map V.str) lo hi = rs'.map V.str ∧ rs'.length ≤ rs.length ∧ ∀ r ∈ rs', r ∈ rs := by
  unfold cutV
  rw [List.length_map]
  refine ⟨(rs.drop (HT.sIx rs.length 0 lo)).take (HT.sIx rs.length rs.length hi - HT.sIx rs.length 0 lo), ?_, ?_, fun r hr => List.mem_of_mem_drop (List.mem_of_mem_take hr)⟩
  · rw [List.map_take, List.map_drop]
  · rw [List.length_take, List.length_drop]
    omega
end LL
/-! LX12: sealed rows, cut or changed in one sign. -/
namespace LL
open PySem PySem.Spec PyProof.Rows L2 TL

/-- rows joined and cut: a beginning of the records -/
theorem who_take : ∀ (rs : List (List Nat)) (k : Nat), (∀ r ∈ rs, 10 ∉ r) → ∃ j, whoL (lnsL (((rs.map rowL).flatten).take k)) = rs.take j
  | [], k, _ => ⟨0, by rw [List.map_nil, List.flatten_nil, List.take_nil, lns_nil (by simp)]; rfl⟩
  | r :: rs, k, h => by
    have hr := h r (List.mem_cons_self ..)
    rw [List.map_cons, List.flatten_cons, row_line, ← linL]
    by_cases hk : k ≤ (linL r).length
    · refine ⟨0, ?_⟩
      rw [List.append_assoc, List.take_append_of_le_length hk, lns_nil (fun z => lin_free hr (List.mem_of_mem_take z))]
      rfl
    · obtain ⟨j, e⟩ := who_take rs (k - (linL r ++ [10]).length) fun x hx => h x (List.mem_cons_of_mem _ hx)
      refine ⟨j + 1, ?_⟩
      have el : (linL r ++ [10]).length = (linL r).length + 1 := by simp
      rw [List.take_append, List.take_of_length_le (by omega)]
      have w := who_rows [r] (((rs.map rowL).flatten).take (k - (linL r ++ [10]).length)) (fun x hx => by rw [List.mem_singleton.mp hx]; exact hr)
      rw [List.map_cons, List.map_nil, List.flatten_cons, List.flatten_nil, List.append_nil, row_line, ← linL] at w
      rw [w, e]
      rfl
theorem step_inj {a b s : Nat} (ha : a < 1000003) (hb : b < 1000003) (h : (31 * a + s) % 1000003 = (31 * b + s) % 1000003) : a = b := by omega
theorem fold_inj : ∀ (r : List Nat) {a b : Nat}, a < 1000003 → b < 1000003 → r.foldl (fun c s => (31 * c + s) % 1000003) a = r.foldl (fun c s => (31 * c + s) % 1000003) b → a = b
  | [], a, b, _, _, h => h
  | s :: r, a, b, ha, hb, h => step_inj ha hb (fold_inj r (Nat.mod_lt _ (by decide)) (Nat.mod_lt _ (by decide)) h)
/-- another sign in one place: another check -/
theorem chk_ne {p r : List Nat} {c d : Nat} (hc : c < 128) (hd : d < 128) (ne : c ≠ d) : chkN (p ++ c :: r) ≠ chkN (p ++ d :: r) := by
  intro h
  unfold chkN at h
  rw [List.foldl_append, List.foldl_append, List.foldl_cons, List.foldl_cons] at h
  have e := fold_inj r (Nat.mod_lt _ (by decide)) (Nat.mod_lt _ (by decide)) h
  have k := chk_lt p
  unfold chkN at k
  omega
/-- a line with this many blanks ahead of the record is the row of no other -/
theorem ok_cut {a b r : List Nat} (ha : 32 ∉ a) (hb : 32 ∉ b) (h : okL (a ++ 32 :: (b ++ 32 :: r)) = true) : a = numL r.length ∧ b = numL (chkN r) := by
  have h := of_decide_eq_true h
  unfold recL at h
  rw [aft_app _ ha, aft_app _ hb] at h
  have h0 : numL r.length ++ 32 :: (numL (chkN r) ++ 32 :: (r ++ [10])) = a ++ 32 :: (b ++ 32 :: (r ++ [10])) := by
    unfold rowL at h
    rw [h]
    simp
  have e1 : numL r.length = a := by
    have e := congrArg (bef 32) h0
    rwa [bef_app _ (numL_free (by decide)), bef_app _ ha] at e
  have e2 := congrArg (aft 32) h0
  rw [aft_app _ (numL_free (by decide)), aft_app _ ha] at e2
  have e3 := congrArg (bef 32) e2
  rw [bef_app _ (numL_free (by decide)), bef_app _ hb] at e3
  exact ⟨e1.symm, e3.symm⟩
/-- another sign in the record -/
theorem no_rec {p q : List Nat} {c d : Nat} (hc : c < 128) (hd : d < 128) (ne : c ≠ d) : ¬ okL (numL (p ++ c :: q).length ++ 32 :: (numL (chkN (p ++ c :: q)) ++ 32 :: (p ++ d :: q))) = true := fun h => by
  have e := (ok_cut (numL_free (by decide)) (numL_free (by decide)) h).2
  exact chk_ne hc hd ne (numL_inj e)
/-- another text where the length stands, without a blank -/
theorem no_len {a b r : List Nat} (ha : 32 ∉ a) (hb : 32 ∉ b) (ne : a ≠ numL r.length) : ¬ okL (a ++ 32 :: (b ++ 32 :: r)) = true := fun h => ne (ok_cut ha hb h).1
/-- another text where the check stands, without a blank -/
theorem no_chk {a b r : List Nat} (ha : 32 ∉ a) (hb : 32 ∉ b) (ne : b ≠ numL (chkN r)) : ¬ okL (a ++ 32 :: (b ++ 32 :: r)) = true := fun h => ne (ok_cut ha hb h).2
/-- a record of another length -/
theorem no_size {b r : List Nat} {n : Nat} (hb : 32 ∉ b) (ne : n ≠ r.length) : ¬ okL (numL n ++ 32 :: (b ++ 32 :: r)) = true := fun h => ne (numL_inj (ok_cut (numL_free (by decide)) hb h).1)
/-- no two blanks -/
theorem no_blank {l : List Nat} (h : 32 ∉ l) : ¬ okL l = true := fun z => h (two_spaces z).1
theorem no_blank2 {a l : List Nat} (ha : 32 ∉ a) (h : 32 ∉ l) : ¬ okL (a ++ 32 :: l) = true := fun z => by
  have y := (two_spaces z).2
  rw [aft_app _ ha] at y
  exact h y
/-- the changed line is none, or is no row: no record -/
theorem who_no {l : List Nat} (h : 10 ∈ l → ¬ okL (bef 10 l) = true) : whoL (lnsL l) = [] := by
  by_cases m : 10 ∈ l
  · rw [who_cons m, if_neg (h m)]
  · rw [lns_nil m]; rfl
theorem num_mono : ∀ {n m : Nat}, n ≤ m → (numL n).length ≤ (numL m).length
  | n, m, h => by
    by_cases hn : n < 10
    · rw [numL_lt hn]
      have := List.length_pos_iff.mpr (numL_ne m)
      exact this
    · rw [numL_step (by omega : 10 ≤ n), numL_step (by omega : 10 ≤ m), List.length_append, List.length_append]
      have := num_mono (n := n / 10) (m := m / 10) (Nat.div_le_div_right h)
      simpa using this
  termination_by n => n
  decreasing_by omega
/-- digits ahead of a number's others: a smaller number -/
theorem num_pre {a b : List Nat} {n m : Nat} (h : numL n = a ++ b) (hb : b ≠ []) (e : a = numL m) : m < n ∨ n = 0 := by
  have hd := numL_digits n
  have v := numL_val n
  by_cases z : n = 0
  · exact .inr z
  · left
    have l1 : b.length ≠ 0 := fun e => hb (List.eq_nil_of_length_eq_zero e)
    have lm : (numL m).length < (numL n).length := by
      rw [h, e, List.length_append]; omega
    rcases Nat.lt_or_ge m n with k | k
    · exact k
    · exfalso
      exact absurd (num_mono k) (by omega)
end LL
/-! LX13: one sign of a sealed row changed: the row's text gives no record. -/
namespace LL
open PySem PySem.Spec PyProof.Rows L2 TL

theorem bef_app2 {s : Nat} : ∀ {p : List Nat} (r : List Nat), s ∉ p → bef s (p ++ r) = p ++ bef s r
  | [], r, _ => rfl
  | c :: p, r, h => by
    rw [List.mem_cons, not_or] at h
    rw [List.cons_append, bef_cons, if_neg (fun e => h.1 e.symm), bef_app2 r h.2, List.cons_append]
section
variable {r tail : List Nat} {d : Nat}
/-- the line feed changed -/
theorem sw_end (hr : 10 ∉ r) (hd : d ≠ 10) : whoL (lnsL (linL r ++ d :: tail)) = [] := by
  refine who_no fun _ => ?_
  rw [bef_app2 _ (lin_free hr), bef_cons, if_neg hd]
  unfold linL
  rw [List.append_assoc, List.cons_append, List.append_assoc, List.cons_append]
  exact no_size (numL_free (by decide)) (by rw [List.length_append, List.length_cons]; omega)
/-- a sign of the record changed -/
theorem sw_rec {p q : List Nat} {c : Nat} (hr : 10 ∉ p ++ c :: q) (hc : c < 128) (hd : d < 128) (ne : c ≠ d) :
    whoL (lnsL (numL (p ++ c :: q).length ++ 32 :: (numL (chkN (p ++ c :: q)) ++ 32 :: (p ++ d :: (q ++ 10 :: tail))))) = [] := by
  refine who_no fun _ => ?_
  simp only [List.mem_append, List.mem_cons, not_or] at hr
  rw [bef_app2 _ (numL_free (by decide)), bef_cons, if_neg (by decide), bef_app2 _ (numL_free (by decide)), bef_cons, if_neg (by decide), bef_app2 _ hr.1, bef_cons]
  by_cases h : d = 10
  · rw [if_pos h, List.append_nil]
    exact no_size (numL_free (by decide)) (by rw [List.length_append, List.length_cons]; omega)
  · rw [if_neg h, bef_app _ hr.2.2]
    exact no_rec hc hd ne
/-- the second blank changed -/
theorem sw_two (hr : 10 ∉ r) (hd : d ≠ 32) : whoL (lnsL (numL r.length ++ 32 :: (numL (chkN r) ++ d :: (r ++ 10 :: tail)))) = [] := by
  refine who_no fun _ => ?_
  rw [bef_app2 _ (numL_free (by decide)), bef_cons, if_neg (by decide), bef_app2 _ (numL_free (by decide)), bef_cons]
  by_cases h : d = 10
  · rw [if_pos h, List.append_nil]
    exact no_blank2 (numL_free (by decide)) (numL_free (by decide))
  · rw [if_neg h, bef_app _ hr]
    have n1 : (32 : Nat) ∉ numL (chkN r) := numL_free (by decide)
    by_cases m : 32 ∈ r
    · have l1 := aft_lt m
      have e : numL (chkN r) ++ d :: r = (numL (chkN r) ++ d :: bef 32 r) ++ 32 :: aft 32 r := by
        rw [List.append_assoc, List.cons_append, ← cut_at m]
      rw [e]
      refine no_size ?_ (by omega)
      simp only [List.mem_append, List.mem_cons, not_or]
      exact ⟨n1, fun e => hd e.symm, bef_no 32 r⟩
    · refine no_blank2 (numL_free (by decide)) ?_
      simp only [List.mem_append, List.mem_cons, not_or]
      exact ⟨n1, fun e => hd e.symm, m⟩
/-- a sign of the check changed -/
theorem sw_chk {p q : List Nat} {c : Nat} (e : numL (chkN r) = p ++ c :: q) (hr : 10 ∉ r) (ne : c ≠ d) : whoL (lnsL (numL r.length ++ 32 :: (p ++ d :: (q ++ 32 :: (r ++ 10 :: tail))))) = [] := by
  have f10 : (10 : Nat) ∉ numL (chkN r) := numL_free (by decide)
  have f32 : (32 : Nat) ∉ numL (chkN r) := numL_free (by decide)
  rw [e] at f10 f32
  simp only [List.mem_append, List.mem_cons, not_or] at f10 f32
  refine who_no fun _ => ?_
  rw [bef_app2 _ (numL_free (by decide)), bef_cons, if_neg (by decide), bef_app2 _ f10.1, bef_cons]
  by_cases h : d = 10
  · rw [if_pos h, List.append_nil]
    exact no_blank2 (numL_free (by decide)) f32.1
  · rw [if_neg h, bef_app2 _ f10.2.2, bef_cons, if_neg (by decide), bef_app _ hr]
    by_cases h2 : d = 32
    · rw [h2]
      exact no_size f32.1 (by rw [List.length_append, List.length_cons]; omega)
    · have k : p ++ d :: (q ++ 32 :: r) = (p ++ d :: q) ++ 32 :: r := by simp
      rw [k]
      refine no_chk (numL_free (by decide)) ?_ (fun z => ?_)
      · simp only [List.mem_append, List.mem_cons, not_or]
        exact ⟨f32.1, fun e => h2 e.symm, f32.2.2⟩
      · rw [e] at z
        have := List.append_cancel_left z
        injection this with h1 _
        exact ne h1.symm
/-- the first blank changed -/
theorem sw_one (hr : 10 ∉ r) (hd : d ≠ 32) : whoL (lnsL (numL r.length ++ d :: (numL (chkN r) ++ 32 :: (r ++ 10 :: tail)))) = [] := by
  refine who_no fun _ => ?_
  have n1 : (32 : Nat) ∉ numL (chkN r) := numL_free (by decide)
  have n0 : (32 : Nat) ∉ numL r.length := numL_free (by decide)
  rw [bef_app2 _ (numL_free (by decide)), bef_cons]
  by_cases h : d = 10
  · rw [if_pos h, List.append_nil]
    exact no_blank n0
  · rw [if_neg h, bef_app2 _ (numL_free (by decide)), bef_cons, if_neg (by decide), bef_app _ hr]
    have na : (32 : Nat) ∉ numL r.length ++ d :: numL (chkN r) := by
      simp only [List.mem_append, List.mem_cons, not_or]
      exact ⟨n0, fun e => hd e.symm, n1⟩
    have k : numL r.length ++ d :: (numL (chkN r) ++ 32 :: r) = (numL r.length ++ d :: numL (chkN r)) ++ 32 :: r := by simp
    rw [k]
    by_cases m : 32 ∈ r
    · have l1 := aft_lt m
      have e : (numL r.length ++ d :: numL (chkN r)) ++ 32 :: r = (numL r.length ++ d :: numL (chkN r)) ++ 32 :: (bef 32 r ++ 32 :: aft 32 r) := by rw [← cut_at m]
      rw [e]
      refine no_len na (bef_no 32 r) (fun z => ?_)
      have z := congrArg List.length z
      have y := num_mono (n := (aft 32 r).length) (m := r.length) (by omega)
      rw [List.length_append, List.length_cons] at z
      omega
    · exact no_blank2 na m
/-- a sign of the length changed -/
theorem sw_len {p q : List Nat} {c : Nat} (e : numL r.length = p ++ c :: q) (hr : 10 ∉ r) (ne : c ≠ d) : whoL (lnsL (p ++ d :: (q ++ 32 :: (numL (chkN r) ++ 32 :: (r ++ 10 :: tail))))) = [] := by
  have f10 : (10 : Nat) ∉ numL r.length := numL_free (by decide)
  have f32 : (32 : Nat) ∉ numL r.length := numL_free (by decide)
  rw [e] at f10 f32
  simp only [List.mem_append, List.mem_cons, not_or] at f10 f32
  refine who_no fun _ => ?_
  rw [bef_app2 _ f10.1, bef_cons]
  by_cases h : d = 10
  · rw [if_pos h, List.append_nil]
    exact no_blank f32.1
  · rw [if_neg h, bef_app2 _ f10.2.2, bef_cons, if_neg (by decide), bef_app2 _ (numL_free (by decide)), bef_cons, if_neg (by decide), bef_app _ hr]
    by_cases h2 : d = 32
    · rw [h2]
      intro z
      have y := (ok_cut f32.1 f32.2.2 z).1
      rcases num_pre e (by simp) y with k | k
      · rw [List.length_append, List.length_cons] at k
        omega
      · rw [k, numL_lt (by decide)] at e
        cases p with
        | nil => exact numL_ne _ y.symm
        | cons x p => simp at e
    · have k : p ++ d :: (q ++ 32 :: (numL (chkN r) ++ 32 :: r)) = (p ++ d :: q) ++ 32 :: (numL (chkN r) ++ 32 :: r) := by simp
      rw [k]
      refine no_len ?_ (numL_free (by decide)) (fun z => ?_)
      · simp only [List.mem_append, List.mem_cons, not_or]
        exact ⟨f32.1, fun e => h2 e.symm, f32.2.2⟩
      · rw [e] at z
        have := List.append_cancel_left z
        injection this with h1 _
        exact ne h1.symm
end
theorem two_ways {A B P Q : List Nat} {x : Nat} (h : A ++ x :: B = P ++ Q) : (∃ q, P = A ++ x :: q ∧ B = q ++ Q) ∨ ∃ a, A = P ++ a ∧ Q = a ++ x :: B := by
  rcases List.append_eq_append_iff.mp h with ⟨as, e1, e2⟩ | ⟨bs, e1, e2⟩
  · cases as with
    | nil => exact .inr ⟨[], by simpa using e1.symm, by simpa using e2.symm⟩
    | cons y as =>
      rw [List.cons_append] at e2
      injection e2 with h1 h2
      subst h1
      exact .inl ⟨as, e1, h2⟩
  · exact .inr ⟨bs, e1, e2⟩
theorem one_way {a B Q : List Nat} {x s : Nat} (h : s :: Q = a ++ x :: B) : (a = [] ∧ x = s ∧ B = Q) ∨ ∃ a', a = s :: a' ∧ Q = a' ++ x :: B := by
  cases a with
  | nil =>
    rw [List.nil_append] at h
    injection h with h1 h2
    exact .inl ⟨rfl, h1.symm, h2.symm⟩
  | cons y a =>
    rw [List.cons_append] at h
    injection h with h1 h2
    subst h1
    exact .inr ⟨a, rfl, h2⟩
/-- one sign of a row (its line feed too) changed: no record, whatever follows -/
theorem who_swap {r tail A B : List Nat} {x d : Nat} (hr : 10 ∉ r) (hl : ∀ c ∈ r, c < 128) (hd : d < 128) (h : A ++ x :: B = linL r ++ 10 :: tail) (k : A.length ≤ (linL r).length) (ne : x ≠ d) : whoL (lnsL (A ++ d :: B)) = [] := by
  have h0 : A ++ x :: B = numL r.length ++ (32 :: (numL (chkN r) ++ (32 :: (r ++ 10 :: tail)))) := by
    rw [h]
    unfold linL
    simp
  rcases two_ways h0 with ⟨q, e1, e2⟩ | ⟨a, e1, e2⟩
  · rw [e2]
    exact sw_len e1 hr ne
  rcases one_way e2 with ⟨rfl, rfl, rfl⟩ | ⟨a1, rfl, e3⟩
  · rw [e1, List.append_nil]
    exact sw_one hr (fun e => ne e.symm)
  rcases two_ways e3.symm with ⟨q, e4, e5⟩ | ⟨a2, e4, e5⟩
  · rw [e1, e5, List.append_assoc, List.cons_append]
    exact sw_chk e4 hr ne
  rcases one_way e5 with ⟨rfl, rfl, rfl⟩ | ⟨a3, rfl, e6⟩
  · rw [e1, e4, List.append_nil, List.append_assoc, List.cons_append]
    exact sw_two hr (fun e => ne e.symm)
  rcases two_ways e6.symm with ⟨q, e7, e8⟩ | ⟨a4, e7, e8⟩
  · rw [e1, e4, e8]
    have hx : x < 128 := hl x (by rw [e7]; simp)
    subst e7
    have z := sw_rec (tail := tail) (d := d) hr hx hd ne
    simpa [List.append_assoc] using z
  rcases one_way e8 with ⟨rfl, rfl, rfl⟩ | ⟨a5, rfl, e9⟩
  · rw [e1, e4, e7, List.append_nil]
    have z := sw_end (tail := B) hr (fun e : d = 10 => ne e.symm)
    unfold linL at z
    simpa [List.append_assoc] using z
  · exfalso
    rw [e1, e4, e7] at k
    unfold linL at k
    simp only [List.length_append, List.length_cons] at k
    omega
end LL
/-! LX14: lists of texts compared. -/
namespace LL
open PySem PySem.Spec PyProof.Rows L2 TL
theorem eqv_strs : ∀ xs ys : List Str, PyData.eqvAll (xs.map PyData.str) (ys.map PyData.str) = decide (xs = ys)
  | [], [] => by simp [PyData.eqvAll]
  | [], _ :: _ => by simp [PyData.eqvAll]
  | _ :: _, [] => by simp [PyData.eqvAll]
  | x :: xs, y :: ys => by
    simp only [List.map_cons, PyData.eqvAll, PyData.eqv, eqv_strs xs ys]
    by_cases h1 : x = y
    · by_cases h2 : xs = ys <;> simp [h1, h2]
    · simp [h1]
theorem dp_strs {K : PySem.W.Frag} {H : Hp} : ∀ xs : List Str, DpAll K H (xs.map V.str) (xs.map PyData.str)
  | [] => .nil
  | x :: xs => .cons (.str x) (dp_strs xs)
theorem shaped_strs {xs : List Str} (h : ∀ x ∈ xs, Asc x) : SeqAt.shaped (.list (xs.map PyData.str)) = true := by
  have h1 : ∀ {l : List Str}, (∀ x ∈ l, Asc x) → PyData.canLayAll0 (l.map PyData.str) = true := by
    intro l
    induction l with
    | nil => intro _; simp [PyData.canLayAll0]
    | cons x l ih =>
      intro h
      simp [PyData.canLayAll0, PyData.canLay0, (h x (List.mem_cons_self ..)).strOk, ih fun y hy => h y (List.mem_cons_of_mem _ hy)]
  have h2 : ∀ l : List Str, PyData.depthAll (l.map PyData.str) ≤ 1 := by
    intro l
    induction l with
    | nil => simp [PyData.depthAll]
    | cons x l ih => simp only [List.map_cons, PyData.depthAll, PyData.depth]; omega
  have := h2 xs
  simp only [SeqAt.shaped, PyData.canLay0, h1 h, PyData.depth, Bool.true_and]
  simp
  omega
theorem r_eqStrs {K : PySem.W.Frag} {H : Hp} {Q : VK} {a b : Addr} {xs ys : List Str} (ha : H a = some (.lst (xs.map V.str))) (hb : H b = some (.lst (ys.map V.str))) (hx : ∀ x ∈ xs, Asc x) (hy : ∀ x ∈ ys, Asc x) (q : Q (.bl (decide (xs = ys))) H) : rEqD K (.ref a) (.ref b) H Q :=
  ⟨_, _, .lst (.inl (.inl ha)) (dp_strs xs), .lst (.inl (.inl hb)) (dp_strs ys), shaped_strs hx, shaped_strs hy, by
    show Q (.bl (PyData.eqvAll _ _)) H
    rw [eqv_strs]; exact q⟩
end LL
/-! LX15: rows of records: how long, with one sign changed. -/
namespace LL
open PySem PySem.Spec PyProof.Rows L2 TL
theorem row_len {r : List Nat} (h : r.length ≤ 40) : (rowL r).length ≤ 60 := by
  have h1 : (numL r.length).length ≤ 2 := TL.numL_len (by decide) (by omega)
  have h2 : (numL (chkN r)).length ≤ 7 := TL.numL_len (by decide) (by have := chk_lt r; omega)
  unfold rowL
  simp only [List.length_append, List.length_cons, List.length_nil]
  omega
theorem cutV_to {xs : List V} {m : Nat} (h : m ≤ xs.length) : cutV xs none (some (m : Int)) = xs.take m := by
  unfold cutV
  rw [HT.sIx_nat, HT.sIx_none, Nat.sub_zero, List.drop_zero, Nat.min_eq_left h]
theorem cutV_from {xs : List V} {m : Nat} (h : m ≤ xs.length) : cutV xs (some (m : Int)) none = xs.drop m := by
  unfold cutV
  rw [HT.sIx_nat, HT.sIx_none, Nat.min_eq_left h, List.take_of_length_le (by simp)]
/-- the rows with one sign of one of them changed: the records ahead of it -/
theorem who_fresh {rs : List (List Nat)} {i a d : Nat} (hi : i < rs.length) (hs : ∀ r ∈ rs, 10 ∉ r ∧ ∀ c ∈ r, c < 128) (ha : a < (rowL rs[i]).length) (hd : d < 128) (ne : (rowL rs[i])[a] ≠ d) (tail : List Nat) :
    whoL (lnsL (((rs.take i).map rowL).flatten ++ ((rowL rs[i]).take a ++ d :: (rowL rs[i]).drop (a + 1) ++ tail))) = rs.take i := by
  have hm : rs[i] ∈ rs := List.getElem_mem hi
  rw [who_rows _ _ (fun r hr => (hs r (List.mem_of_mem_take hr)).1)]
  have e : (rowL rs[i]).take a ++ (rowL rs[i])[a] :: ((rowL rs[i]).drop (a + 1) ++ tail) = linL rs[i] ++ 10 :: tail := by
    have e1 : rowL rs[i] = (rowL rs[i]).take a ++ (rowL rs[i])[a] :: (rowL rs[i]).drop (a + 1) := by
      rw [← List.drop_eq_getElem_cons ha, List.take_append_drop]
    have e2 : linL rs[i] ++ 10 :: tail = rowL rs[i] ++ tail := by
      rw [row_line]; unfold linL; simp
    rw [e2, ← List.cons_append, ← List.append_assoc, ← e1]
  have el : (rowL rs[i]).length = (linL rs[i]).length + 1 := by rw [row_line]; unfold linL; simp; omega
  have w := who_swap (hs _ hm).1 (hs _ hm).2 hd e (by rw [List.length_take]; omega) ne
  rw [show (rowL rs[i]).take a ++ d :: (rowL rs[i]).drop (a + 1) ++ tail = (rowL rs[i]).take a ++ d :: ((rowL rs[i]).drop (a + 1) ++ tail) from by simp, w, List.append_nil]
theorem filt_step {l : List Nat} {k c : Nat} {f : Nat → Bool} (h : l[k]? = some c) : (l.take (k + 1)).filter f = (l.take k).filter f ++ if f c = true then [c] else [] := by
  rw [List.take_add_one, h, List.filter_append]
  by_cases e : f c = true <;> simp [e]
theorem who_mem {x l : List Nat} (h : l ∈ whoL (lnsL x)) : ∀ c ∈ l, c ∈ x := by
  unfold whoL at h
  obtain ⟨k, hk, rfl⟩ := List.mem_map.mp h
  have hk := (List.takeWhile_sublist _).subset hk
  exact fun c hc => (lns_mem _ (Nat.le_refl _) hk).2.1 c (rec_mem hc)
theorem who_cnt (x : List Nat) : (whoL (lnsL x)).length ≤ x.length := by
  unfold whoL
  rw [List.length_map]
  exact Nat.le_trans (List.takeWhile_sublist _).length_le (lns_cnt x)
theorem take_len (rs : List (List Nat)) (j : Nat) : rs.take (rs.take j).length = rs.take j := by
  rw [List.length_take]
  by_cases h : j ≤ rs.length
  · rw [Nat.min_eq_left h]
  · rw [Nat.min_eq_right (by omega), List.take_length, List.take_of_length_le (by omega)]
theorem map_mk (ls : List (List Nat)) : (ls.map fun l => V.str (mkS l)) = (ls.map mkS).map V.str := by rw [List.map_map]; rfl
theorem asc_mk {ls : List (List Nat)} (h : ∀ l ∈ ls, ∀ c ∈ l, c < 128) : ∀ x ∈ ls.map mkS, Asc x := fun x hx => by
  obtain ⟨l, hl, rfl⟩ := List.mem_map.mp hx
  exact h l hl
theorem r_neL {K : PySem.W.Frag} {H : Hp} {Q : VK} {a b : Addr} {ls : List (List Nat)} (ha : H a = some (.lst (ls.map fun l => V.str (mkS l)))) (hb : H b = some (.lst (ls.map fun l => V.str (mkS l)))) (h : ∀ l ∈ ls, ∀ c ∈ l, c < 128) (q : Q (.bl false) H) : rNeD K (.ref a) (.ref b) H Q := by
  rw [map_mk] at ha hb
  exact r_neDs (.lst (.inl (.inl ha)) (dp_strs _)) (.lst (.inl (.inl hb)) (dp_strs _)) (shaped_strs (asc_mk h)) q
end LL
namespace K75
open PySem PySem.Spec PyProof.Rows L2 LL LamX
def top (i : Nat) : Stmt := PySem.Challenge.pw_leastlog_k75_sealed_rows.main.body.getD i (.Pass ⟨0, 0, 0, 0⟩)
abbrev s_InvalidRecordU_initU : Stmt := inClass (top 2) 0
abbrev s_sealed : Stmt := top 7
abbrev s_whole_records : Stmt := top 8
abbrev s_record_in_row : Stmt := top 9
abbrev s_check_of : Stmt := top 10
abbrev s_check_record : Stmt := top 11
abbrev s_check_string : Stmt := top 12
abbrev s_l_pot : Stmt := top 14
abbrev s_l_take : Stmt := top 15
abbrev s_l_pick : Stmt := top 16
abbrev s_l_check : Stmt := top 17
abbrev s_l_row : Stmt := top 18
abbrev s_l_record : Stmt := top 19
abbrev s_l_whole : Stmt := top 20
abbrev s_l_odd_row : Stmt := top 21
abbrev s_l_spoilt : Stmt := top 22
abbrev s_l_refused : Stmt := top 23
abbrev s_l_replaced_right : Stmt := top 24
abbrev s_l_more_right : Stmt := top 25
abbrev s_l_right : Stmt := top 26
abbrev s_law : Stmt := top 27
def ftabs : List Str := ["_law_more_right"]
structure Tx (K : PySem.W.Frag) (mg : Str → Option Value) where
  fd_InvalidRecordU_initU : FuncData
  fd_sealed : FuncData
  fd_whole_records : FuncData
  fd_record_in_row : FuncData
  fd_check_of : FuncData
  fd_check_record : FuncData
  fd_check_string : FuncData
  fd_l_pot : FuncData
  fd_l_take : FuncData
  fd_l_pick : FuncData
  fd_l_check : FuncData
  fd_l_row : FuncData
  fd_l_record : FuncData
  fd_l_whole : FuncData
  fd_l_odd_row : FuncData
  fd_l_spoilt : FuncData
  fd_l_refused : FuncData
  fd_l_replaced_right : FuncData
  fd_l_more_right : FuncData
  fd_l_right : FuncData
  fd_law : FuncData
  F_InvalidRecordU_initU : FunD K "__init__" "InvalidRecord.__init__" (defArgs s_InvalidRecordU_initU) (defBody s_InvalidRecordU_initU) (defScope s_InvalidRecordU_initU) [] [] (He.ma K (He.ga K "InvalidRecord") "__init__") fd_InvalidRecordU_initU
  F_sealed : FunD K "sealed" "sealed" (defArgs s_sealed) (defBody s_sealed) (defScope s_sealed) [] [] (He.ga K "sealed") fd_sealed
  F_whole_records : FunD K "whole_records" "whole_records" (defArgs s_whole_records) (defBody s_whole_records) (defScope s_whole_records) [] [] (He.ga K "whole_records") fd_whole_records
  F_record_in_row : FunD K "record_in_row" "record_in_row" (defArgs s_record_in_row) (defBody s_record_in_row) (defScope s_record_in_row) [] [] (He.ga K "record_in_row") fd_record_in_row
  F_check_of : FunD K "check_of" "check_of" (defArgs s_check_of) (defBody s_check_of) (defScope s_check_of) [] [] (He.ga K "check_of") fd_check_of
  F_check_record : FunD K "check_record" "check_record" (defArgs s_check_record) (defBody s_check_record) (defScope s_check_record) [] [] (He.ga K "check_record") fd_check_record
  F_check_string : FunD K "check_string" "check_string" (defArgs s_check_string) (defBody s_check_string) (defScope s_check_string) [] [] (He.ga K "check_string") fd_check_string
  F_l_pot : FunD K "_law_pot" "_law_pot" (defArgs s_l_pot) (defBody s_l_pot) (defScope s_l_pot) [] [] (He.ga K "_law_pot") fd_l_pot
  F_l_take : FunD K "_law_take" "_law_take" (defArgs s_l_take) (defBody s_l_take) (defScope s_l_take) [] [] (He.ga K "_law_take") fd_l_take
  F_l_pick : FunD K "_law_pick" "_law_pick" (defArgs s_l_pick) (defBody s_l_pick) (defScope s_l_pick) [] [] (He.ga K "_law_pick") fd_l_pick
  F_l_check : FunD K "_law_check" "_law_check" (defArgs s_l_check) (defBody s_l_check) (defScope s_l_check) [] [] (He.ga K "_law_check") fd_l_check
  F_l_row : FunD K "_law_row" "_law_row" (defArgs s_l_row) (defBody s_l_row) (defScope s_l_row) [] [] (He.ga K "_law_row") fd_l_row
  F_l_record : FunD K "_law_record" "_law_record" (defArgs s_l_record) (defBody s_l_record) (defScope s_l_record) [] [] (He.ga K "_law_record") fd_l_record
  F_l_whole : FunD K "_law_whole" "_law_whole" (defArgs s_l_whole) (defBody s_l_whole) (defScope s_l_whole) [] [] (He.ga K "_law_whole") fd_l_whole
  F_l_odd_row : FunD K "_law_odd_row" "_law_odd_row" (defArgs s_l_odd_row) (defBody s_l_odd_row) (defScope s_l_odd_row) [] [] (He.ga K "_law_odd_row") fd_l_odd_row
  F_l_spoilt : FunD K "_law_spoilt" "_law_spoilt" (defArgs s_l_spoilt) (defBody s_l_spoilt) (defScope s_l_spoilt) [] [] (He.ga K "_law_spoilt") fd_l_spoilt
  F_l_refused : FunD K "_law_refused" "_law_refused" (defArgs s_l_refused) (defBody s_l_refused) (defScope s_l_refused) [] [] (He.ga K "_law_refused") fd_l_refused
  F_l_replaced_right : FunD K "_law_replaced_right" "_law_replaced_right" (defArgs s_l_replaced_right) (defBody s_l_replaced_right) (defScope s_l_replaced_right) [] [] (He.ga K "_law_replaced_right") fd_l_replaced_right
  F_l_more_right : FunD K "_law_more_right" "_law_more_right" (defArgs s_l_more_right) (defBody s_l_more_right) (defScope s_l_more_right) [] [] (He.ga K "_law_more_right") fd_l_more_right
  F_l_right : FunD K "_law_right" "_law_right" (defArgs s_l_right) (defBody s_l_right) (defScope s_l_right) [] [] (He.ga K "_law_right") fd_l_right
  F_law : FunD K "law" "law" (defArgs s_law) (defBody s_law) (defScope s_law) [] [] (He.ga K "law") fd_law
  m_abs : mg "abs" = none
  m_all : mg "all" = none
  m_divmod : mg "divmod" = none
  m_int : mg "int" = none
  m_isinstance : mg "isinstance" = none
  m_len : mg "len" = none
  m_max : mg "max" = none
  m_min : mg "min" = none
  m_ord : mg "ord" = none
  m_range : mg "range" = none
  m_repr : mg "repr" = none
  m_str : mg "str" = none
  g_sealed : mg "sealed" = some (.ref (He.ga K "sealed"))
  g_whole_records : mg "whole_records" = some (.ref (He.ga K "whole_records"))
  g_record_in_row : mg "record_in_row" = some (.ref (He.ga K "record_in_row"))
  g_check_of : mg "check_of" = some (.ref (He.ga K "check_of"))
  g_check_record : mg "check_record" = some (.ref (He.ga K "check_record"))
  g_check_string : mg "check_string" = some (.ref (He.ga K "check_string"))
  g_l_pot : mg "_law_pot" = some (.ref (He.ga K "_law_pot"))
  g_l_take : mg "_law_take" = some (.ref (He.ga K "_law_take"))
  g_l_pick : mg "_law_pick" = some (.ref (He.ga K "_law_pick"))
  g_l_check : mg "_law_check" = some (.ref (He.ga K "_law_check"))
  g_l_row : mg "_law_row" = some (.ref (He.ga K "_law_row"))
  g_l_record : mg "_law_record" = some (.ref (He.ga K "_law_record"))
  g_l_whole : mg "_law_whole" = some (.ref (He.ga K "_law_whole"))
  g_l_odd_row : mg "_law_odd_row" = some (.ref (He.ga K "_law_odd_row"))
  g_l_spoilt : mg "_law_spoilt" = some (.ref (He.ga K "_law_spoilt"))
  g_l_refused : mg "_law_refused" = some (.ref (He.ga K "_law_refused"))
  g_l_replaced_right : mg "_law_replaced_right" = some (.ref (He.ga K "_law_replaced_right"))
  g_l_more_right : mg "_law_more_right" = some (.ref (He.ga K "_law_more_right"))
  g_l_right : mg "_law_right" = some (.ref (He.ga K "_law_right"))
  g_law : mg "law" = some (.ref (He.ga K "law"))
  g_InvalidRecord : mg "InvalidRecord" = some (.ref (He.ga K "InvalidRecord"))
  g_LeastlogError : mg "LeastlogError" = some (.ref (He.ga K "LeastlogError"))
  g_FIRST_CHECK : ∃ t, mg "FIRST_CHECK" = some (.int 7 t)
  g_CHECK_FACTOR : ∃ t, mg "CHECK_FACTOR" = some (.int 31 t)
  g_CHECK_MODULUS : ∃ t, mg "CHECK_MODULUS" = some (.int 1000003 t)
  x_InvalidRecord : Oex K (He.ga K "InvalidRecord") (He.ma K (He.ga K "InvalidRecord") "__init__")
  nf_InvalidRecord : PySem.W.findIn K (.ref (He.ga K "InvalidRecord")) "value" = some none
  e_InvalidRecord_InvalidRecord : PySem.W.exmOne K (.ref (He.ga K "InvalidRecord")) (.ref (He.ga K "InvalidRecord")) = some true
  k_InvalidRecord_LeastlogError : PySem.W.kitOne K (.ref (He.ga K "InvalidRecord")) (.ref (He.ga K "LeastlogError")) = some true
  tabU : tabU K ftabs = true
  tb_l_more_right : ∃ c P, tabOf K (He.ga K "_law_more_right") = some (c, P)
section
variable {K : PySem.W.Frag} {mg : Str → Option Value}
theorem Tx.b_InvalidRecordU_initU (T : Tx K mg) : Binds K T.fd_InvalidRecordU_initU ["self", "value"] [] := T.F_InvalidRecordU_initU.bindsN fun _ _ _ _ _ _ us hl => match us, hl with | [_, _], _ => rfl
theorem Tx.b_sealed (T : Tx K mg) : Binds K T.fd_sealed ["record"] [] := T.F_sealed.bindsN fun _ _ _ _ _ _ us hl => match us, hl with | [_], _ => rfl
theorem Tx.b_whole_records (T : Tx K mg) : Binds K T.fd_whole_records ["text"] [] := T.F_whole_records.bindsN fun _ _ _ _ _ _ us hl => match us, hl with | [_], _ => rfl
theorem Tx.b_record_in_row (T : Tx K mg) : Binds K T.fd_record_in_row ["text"] [] := T.F_record_in_row.bindsN fun _ _ _ _ _ _ us hl => match us, hl with | [_], _ => rfl
theorem Tx.b_check_of (T : Tx K mg) : Binds K T.fd_check_of ["record"] [] := T.F_check_of.bindsN fun _ _ _ _ _ _ us hl => match us, hl with | [_], _ => rfl
theorem Tx.b_check_record (T : Tx K mg) : Binds K T.fd_check_record ["value"] [] := T.F_check_record.bindsN fun _ _ _ _ _ _ us hl => match us, hl with | [_], _ => rfl
theorem Tx.b_check_string (T : Tx K mg) : Binds K T.fd_check_string ["value"] [] := T.F_check_string.bindsN fun _ _ _ _ _ _ us hl => match us, hl with | [_], _ => rfl
theorem Tx.b_l_pot (T : Tx K mg) : Binds K T.fd_l_pot ["_law_script", "_law_k"] [] := T.F_l_pot.bindsN fun _ _ _ _ _ _ us hl => match us, hl with | [_, _], _ => rfl
theorem Tx.b_l_take (T : Tx K mg) : Binds K T.fd_l_take ["_law_pot_here", "_law_many"] [] := T.F_l_take.bindsN fun _ _ _ _ _ _ us hl => match us, hl with | [_, _], _ => rfl
theorem Tx.b_l_pick (T : Tx K mg) : Binds K T.fd_l_pick ["_law_pot_here", "_law_some"] [] := T.F_l_pick.bindsN fun _ _ _ _ _ _ us hl => match us, hl with | [_, _], _ => rfl
theorem Tx.b_l_check (T : Tx K mg) : Binds K T.fd_l_check ["_law_record_here"] [] := T.F_l_check.bindsN fun _ _ _ _ _ _ us hl => match us, hl with | [_], _ => rfl
theorem Tx.b_l_row (T : Tx K mg) : Binds K T.fd_l_row ["_law_record_here"] [] := T.F_l_row.bindsN fun _ _ _ _ _ _ us hl => match us, hl with | [_], _ => rfl
theorem Tx.b_l_record (T : Tx K mg) : Binds K T.fd_l_record ["_law_pot_here"] [] := T.F_l_record.bindsN fun _ _ _ _ _ _ us hl => match us, hl with | [_], _ => rfl
theorem Tx.b_l_whole (T : Tx K mg) : Binds K T.fd_l_whole ["_law_text"] [] := T.F_l_whole.bindsN fun _ _ _ _ _ _ us hl => match us, hl with | [_], _ => rfl
theorem Tx.b_l_odd_row (T : Tx K mg) : Binds K T.fd_l_odd_row ["_law_pot_here", "_law_record_here"] [] := T.F_l_odd_row.bindsN fun _ _ _ _ _ _ us hl => match us, hl with | [_, _], _ => rfl
theorem Tx.b_l_spoilt (T : Tx K mg) : Binds K T.fd_l_spoilt ["_law_pot_here", "_law_rows"] [] := T.F_l_spoilt.bindsN fun _ _ _ _ _ _ us hl => match us, hl with | [_, _], _ => rfl
theorem Tx.b_l_refused (T : Tx K mg) : Binds K T.fd_l_refused ["_law_call"] [] := T.F_l_refused.bindsN fun _ _ _ _ _ _ us hl => match us, hl with | [_], _ => rfl
theorem Tx.b_l_replaced_right (T : Tx K mg) : Binds K T.fd_l_replaced_right ["_law_pot_here", "_law_records", "_law_rows"] [] := T.F_l_replaced_right.bindsN fun _ _ _ _ _ _ us hl => match us, hl with | [_, _, _], _ => rfl
theorem Tx.b_l_more_right (T : Tx K mg) : Binds K T.fd_l_more_right ["_law_pot_here", "_law_records", "_law_rows"] [] := T.F_l_more_right.bindsN fun _ _ _ _ _ _ us hl => match us, hl with | [_, _, _], _ => rfl
theorem Tx.b_l_right (T : Tx K mg) : Binds K T.fd_l_right ["_law_pot_here"] [] := T.F_l_right.bindsN fun _ _ _ _ _ _ us hl => match us, hl with | [_], _ => rfl
theorem Tx.b_law (T : Tx K mg) : Binds K T.fd_law ["_law_script"] [] := T.F_law.bindsN fun _ _ _ _ _ _ us hl => match us, hl with | [_], _ => rfl
end
def hfa : List He.Fa := [.free "abs", .free "all", .free "divmod", .free "int", .free "isinstance", .free "len", .free "max", .free "min", .free "ord", .free "range", .free "repr", .free "str", .glo "sealed", .glo "whole_records", .glo "record_in_row", .glo "check_of", .glo "check_record", .glo "check_string", .glo "_law_pot", .glo "_law_take", .glo "_law_pick", .glo "_law_check", .glo "_law_row", .glo "_law_record", .glo "_law_whole", .glo "_law_odd_row", .glo "_law_spoilt", .glo "_law_refused", .glo "_law_replaced_right", .glo "_law_more_right", .glo "_law_right", .glo "law", .glo "InvalidRecord", .glo "LeastlogError", .int "FIRST_CHECK" 7, .int "CHECK_FACTOR" 31, .int "CHECK_MODULUS" 1000003]
def hex (K : PySem.W.Frag) : Bool := oexF K "InvalidRecord" (He.ma K (He.ga K "InvalidRecord") "__init__") && (He.eqO (PySem.W.findIn K (.ref (He.ga K "InvalidRecord")) "value") (some none) && (decide (PySem.W.exmOne K (.ref (He.ga K "InvalidRecord")) (.ref (He.ga K "InvalidRecord")) = some true) && (decide (PySem.W.kitOne K (.ref (He.ga K "InvalidRecord")) (.ref (He.ga K "LeastlogError")) = some true) && (tabU K ftabs))))
def d_InvalidRecordU_initU : He5.DefA := ⟨fun K => (He.ma K (He.ga K "InvalidRecord") "__init__"), "__init__", "InvalidRecord.__init__", defArgs s_InvalidRecordU_initU, defBody s_InvalidRecordU_initU, defScope s_InvalidRecordU_initU, [], []⟩
def d_sealed : He5.DefA := ⟨fun K => (He.ga K "sealed"), "sealed", "sealed", defArgs s_sealed, defBody s_sealed, defScope s_sealed, [], []⟩
def d_whole_records : He5.DefA := ⟨fun K => (He.ga K "whole_records"), "whole_records", "whole_records", defArgs s_whole_records, defBody s_whole_records, defScope s_whole_records, [], []⟩
def d_record_in_row : He5.DefA := ⟨fun K => (He.ga K "record_in_row"), "record_in_row", "record_in_row", defArgs s_record_in_row, defBody s_record_in_row, defScope s_record_in_row, [], []⟩
def d_check_of : He5.DefA := ⟨fun K => (He.ga K "check_of"), "check_of", "check_of", defArgs s_check_of, defBody s_check_of, defScope s_check_of, [], []⟩
def d_check_record : He5.DefA := ⟨fun K => (He.ga K "check_record"), "check_record", "check_record", defArgs s_check_record, defBody s_check_record, defScope s_check_record, [], []⟩
def d_check_string : He5.DefA := ⟨fun K => (He.ga K "check_string"), "check_string", "check_string", defArgs s_check_string, defBody s_check_string, defScope s_check_string, [], []⟩
def d_l_pot : He5.DefA := ⟨fun K => (He.ga K "_law_pot"), "_law_pot", "_law_pot", defArgs s_l_pot, defBody s_l_pot, defScope s_l_pot, [], []⟩
def d_l_take : He5.DefA := ⟨fun K => (He.ga K "_law_take"), "_law_take", "_law_take", defArgs s_l_take, defBody s_l_take, defScope s_l_take, [], []⟩
def d_l_pick : He5.DefA := ⟨fun K => (He.ga K "_law_pick"), "_law_pick", "_law_pick", defArgs s_l_pick, defBody s_l_pick, defScope s_l_pick, [], []⟩
def d_l_check : He5.DefA := ⟨fun K => (He.ga K "_law_check"), "_law_check", "_law_check", defArgs s_l_check, defBody s_l_check, defScope s_l_check, [], []⟩
def d_l_row : He5.DefA := ⟨fun K => (He.ga K "_law_row"), "_law_row", "_law_row", defArgs s_l_row, defBody s_l_row, defScope s_l_row, [], []⟩
def d_l_record : He5.DefA := ⟨fun K => (He.ga K "_law_record"), "_law_record", "_law_record", defArgs s_l_record, defBody s_l_record, defScope s_l_record, [], []⟩
def d_l_whole : He5.DefA := ⟨fun K => (He.ga K "_law_whole"), "_law_whole", "_law_whole", defArgs s_l_whole, defBody s_l_whole, defScope s_l_whole, [], []⟩
def d_l_odd_row : He5.DefA := ⟨fun K => (He.ga K "_law_odd_row"), "_law_odd_row", "_law_odd_row", defArgs s_l_odd_row, defBody s_l_odd_row, defScope s_l_odd_row, [], []⟩
def d_l_spoilt : He5.DefA := ⟨fun K => (He.ga K "_law_spoilt"), "_law_spoilt", "_law_spoilt", defArgs s_l_spoilt, defBody s_l_spoilt, defScope s_l_spoilt, [], []⟩
def d_l_refused : He5.DefA := ⟨fun K => (He.ga K "_law_refused"), "_law_refused", "_law_refused", defArgs s_l_refused, defBody s_l_refused, defScope s_l_refused, [], []⟩
def d_l_replaced_right : He5.DefA := ⟨fun K => (He.ga K "_law_replaced_right"), "_law_replaced_right", "_law_replaced_right", defArgs s_l_replaced_right, defBody s_l_replaced_right, defScope s_l_replaced_right, [], []⟩
def d_l_more_right : He5.DefA := ⟨fun K => (He.ga K "_law_more_right"), "_law_more_right", "_law_more_right", defArgs s_l_more_right, defBody s_l_more_right, defScope s_l_more_right, [], []⟩
def d_l_right : He5.DefA := ⟨fun K => (He.ga K "_law_right"), "_law_right", "_law_right", defArgs s_l_right, defBody s_l_right, defScope s_l_right, [], []⟩
def d_law : He5.DefA := ⟨fun K => (He.ga K "law"), "law", "law", defArgs s_law, defBody s_law, defScope s_law, [], []⟩
def hfn : List He5.DefA := [d_InvalidRecordU_initU, d_sealed, d_whole_records, d_record_in_row, d_check_of, d_check_record, d_check_string, d_l_pot, d_l_take, d_l_pick, d_l_check, d_l_row, d_l_record, d_l_whole, d_l_odd_row, d_l_spoilt, d_l_refused, d_l_replaced_right, d_l_more_right, d_l_right, d_law]
abbrev R : PySem.W.OpenRow := PySem.W.OpenLaw.row PySem.Challenge.rw_leastlog_k75_sealed_rows
def loose : List Str := (["LeastlogError", "InvalidRecord", "FIRST_CHECK", "CHECK_FACTOR", "CHECK_MODULUS", "sealed", "whole_records", "record_in_row", "check_of", "check_record", "check_string", "_law_pot"] : List Str) ++ (["_law_take", "_law_pick", "_law_check", "_law_row", "_law_record", "_law_whole", "_law_odd_row", "_law_spoilt", "_law_refused", "_law_replaced_right", "_law_more_right", "_law_right"] : List Str)
abbrev hk : PySem.W.Hook := hookT 6 hfa hfn hex ftabs
def ob (s : PySem.W.SharedT) : He.AlD × Bool := obsT 6 hfa hfn hex ftabs (HandSHeadRun.getT s)
theorem ob_eq (s : PySem.W.SharedT) : ob s = hk.obs s.abs := obsT_eq (HandSHeadRun.getT_eq s)
theorem run (w : World) : RunI R (PySem.W.view R.prog [27]) hk ob 6000 6000 loose w := by
  unfold LL.RunI
  kernel_rfl
theorem tx_of {K : PySem.W.Frag} {h : Heap} {mg : Str → Option Value} (X : K.In h) (G : h.Ns mainGlobals mg) (XX : PySem.W.XL (PySem.W.view R.prog [27]) [] mg h) (c : He5.SaysA hfa hfn K) (x : hex K = true) (tt : TabsOk K h ftabs) : ∃ T : Tx K mg, True := by
  obtain ⟨fd0, F0⟩ := c.def_ 0 (d := d_InvalidRecordU_initU) rfl
  obtain ⟨fd1, F1⟩ := c.def_ 1 (d := d_sealed) rfl
  obtain ⟨fd2, F2⟩ := c.def_ 2 (d := d_whole_records) rfl
  obtain ⟨fd3, F3⟩ := c.def_ 3 (d := d_record_in_row) rfl
  obtain ⟨fd4, F4⟩ := c.def_ 4 (d := d_check_of) rfl
  obtain ⟨fd5, F5⟩ := c.def_ 5 (d := d_check_record) rfl
  obtain ⟨fd6, F6⟩ := c.def_ 6 (d := d_check_string) rfl
  obtain ⟨fd7, F7⟩ := c.def_ 7 (d := d_l_pot) rfl
  obtain ⟨fd8, F8⟩ := c.def_ 8 (d := d_l_take) rfl
  obtain ⟨fd9, F9⟩ := c.def_ 9 (d := d_l_pick) rfl
  obtain ⟨fd10, F10⟩ := c.def_ 10 (d := d_l_check) rfl
  obtain ⟨fd11, F11⟩ := c.def_ 11 (d := d_l_row) rfl
  obtain ⟨fd12, F12⟩ := c.def_ 12 (d := d_l_record) rfl
  obtain ⟨fd13, F13⟩ := c.def_ 13 (d := d_l_whole) rfl
  obtain ⟨fd14, F14⟩ := c.def_ 14 (d := d_l_odd_row) rfl
  obtain ⟨fd15, F15⟩ := c.def_ 15 (d := d_l_spoilt) rfl
  obtain ⟨fd16, F16⟩ := c.def_ 16 (d := d_l_refused) rfl
  obtain ⟨fd17, F17⟩ := c.def_ 17 (d := d_l_replaced_right) rfl
  obtain ⟨fd18, F18⟩ := c.def_ 18 (d := d_l_more_right) rfl
  obtain ⟨fd19, F19⟩ := c.def_ 19 (d := d_l_right) rfl
  obtain ⟨fd20, F20⟩ := c.def_ 20 (d := d_law) rfl
  obtain ⟨x0, x⟩ := He.ba x
  obtain ⟨x1, x⟩ := He.ba x
  obtain ⟨x2, x⟩ := He.ba x
  obtain ⟨x3, x⟩ := He.ba x
  have x4 := x
  have tb_l_more_right : ∃ c P, tabOf K (He.ga K "_law_more_right") = some (c, P) := by
    obtain ⟨c, P, a, _⟩ := tt.ex "_law_more_right" (by decide)
    exact ⟨c, P, a⟩
  exact ⟨⟨fd0, fd1, fd2, fd3, fd4, fd5, fd6, fd7, fd8, fd9, fd10, fd11, fd12, fd13, fd14, fd15, fd16, fd17, fd18, fd19, fd20, F0, F1, F2, F3, F4, F5, F6, F7, F8, F9, F10, F11, F12, F13, F14, F15, F16, F17, F18, F19, F20, (He.free_ok X G (c.fact 0 (f := .free "abs") rfl)), (He.free_ok X G (c.fact 1 (f := .free "all") rfl)), (He.free_ok X G (c.fact 2 (f := .free "divmod") rfl)), (He.free_ok X G (c.fact 3 (f := .free "int") rfl)), (He.free_ok X G (c.fact 4 (f := .free "isinstance") rfl)), (He.free_ok X G (c.fact 5 (f := .free "len") rfl)), (He.free_ok X G (c.fact 6 (f := .free "max") rfl)), (He.free_ok X G (c.fact 7 (f := .free "min") rfl)), (He.free_ok X G (c.fact 8 (f := .free "ord") rfl)), (He.free_ok X G (c.fact 9 (f := .free "range") rfl)), (He.free_ok X G (c.fact 10 (f := .free "repr") rfl)), (He.free_ok X G (c.fact 11 (f := .free "str") rfl)), (He.glo_ok X G (c.fact 12 (f := .glo "sealed") rfl)), (He.glo_ok X G (c.fact 13 (f := .glo "whole_records") rfl)), (He.glo_ok X G (c.fact 14 (f := .glo "record_in_row") rfl)), (He.glo_ok X G (c.fact 15 (f := .glo "check_of") rfl)), (He.glo_ok X G (c.fact 16 (f := .glo "check_record") rfl)), (He.glo_ok X G (c.fact 17 (f := .glo "check_string") rfl)), (He.glo_ok X G (c.fact 18 (f := .glo "_law_pot") rfl)), (He.glo_ok X G (c.fact 19 (f := .glo "_law_take") rfl)), (He.glo_ok X G (c.fact 20 (f := .glo "_law_pick") rfl)), (He.glo_ok X G (c.fact 21 (f := .glo "_law_check") rfl)), (He.glo_ok X G (c.fact 22 (f := .glo "_law_row") rfl)), (He.glo_ok X G (c.fact 23 (f := .glo "_law_record") rfl)), (He.glo_ok X G (c.fact 24 (f := .glo "_law_whole") rfl)), (He.glo_ok X G (c.fact 25 (f := .glo "_law_odd_row") rfl)), (He.glo_ok X G (c.fact 26 (f := .glo "_law_spoilt") rfl)), (He.glo_ok X G (c.fact 27 (f := .glo "_law_refused") rfl)), (He.glo_ok X G (c.fact 28 (f := .glo "_law_replaced_right") rfl)), (He.glo_ok X G (c.fact 29 (f := .glo "_law_more_right") rfl)), (He.glo_ok X G (c.fact 30 (f := .glo "_law_right") rfl)), (He.glo_ok X G (c.fact 31 (f := .glo "law") rfl)), (He.glo_ok X G (c.fact 32 (f := .glo "InvalidRecord") rfl)), (He.glo_ok X G (c.fact 33 (f := .glo "LeastlogError") rfl)), (He.int_ok X G (c.fact 34 (f := .int "FIRST_CHECK" 7) rfl)), (He.int_ok X G (c.fact 35 (f := .int "CHECK_FACTOR" 31) rfl)), (He.int_ok X G (c.fact 36 (f := .int "CHECK_MODULUS" 1000003) rfl)), (oexF_ok x0), (He.eqO_ok x1), (of_decide_eq_true x2), (of_decide_eq_true x3), (id x4), tb_l_more_right⟩, trivial⟩
local macro_rules
  | `(tactic| walk_at "rdv") => `(tactic| first
    | with_reducible refine r_v0 ?_
    | with_reducible refine r_v1 ?_
    | with_reducible refine r_v2 ?_
    | with_reducible refine r_v3 ?_
    | with_reducible refine r_v4 ?_
    | with_reducible refine r_v5 ?_
    | with_reducible refine r_v6 ?_
    | with_reducible refine r_v7 ?_
    | with_reducible refine r_v8 ?_
    | with_reducible refine r_v9 ?_
    | with_reducible refine r_v10 ?_
    | with_reducible refine r_v11 ?_
    | with_reducible refine r_v12 ?_
    | with_reducible refine r_v13 ?_
    | with_reducible refine r_v14 ?_
    | with_reducible refine r_v15 ?_
    | with_reducible refine r_v16 ?_
    | with_reducible refine r_v17 ?_
    | with_reducible refine r_v18 ?_
    | with_reducible refine r_v19 ?_
    | with_reducible refine r_v20 ?_
    | with_reducible refine r_v21 ?_
    | with_reducible refine r_v22 ?_
    | with_reducible refine r_v23 ?_
    | with_reducible refine r_v24 ?_
    | with_reducible refine r_v25 ?_)
local macro_rules
  | `(tactic| walk_at "rds") => `(tactic| first
    | with_reducible refine r_s0 ?_
    | with_reducible refine r_s1 ?_
    | with_reducible refine r_s2 ?_
    | with_reducible refine r_s3 ?_
    | with_reducible refine r_s4 ?_
    | with_reducible refine r_s5 ?_
    | with_reducible refine r_s6 ?_
    | with_reducible refine r_s7 ?_
    | with_reducible refine r_s8 ?_
    | with_reducible refine r_s9 ?_
    | with_reducible refine r_s10 ?_
    | with_reducible refine r_s11 ?_
    | with_reducible refine r_s12 ?_
    | with_reducible refine r_s13 ?_
    | with_reducible refine r_s14 ?_
    | with_reducible refine r_s15 ?_
    | with_reducible refine r_s16 ?_
    | with_reducible refine r_s17 ?_
    | with_reducible refine r_s18 ?_
    | with_reducible refine r_s19 ?_
    | with_reducible refine r_s20 ?_
    | with_reducible refine r_s21 ?_
    | with_reducible refine r_s22 ?_
    | with_reducible refine r_s23 ?_
    | with_reducible refine r_s24 ?_
    | with_reducible refine r_s25 ?_)
local macro_rules
  | `(tactic| walk_at "rd") => `(tactic| first
    | with_reducible refine r_seq ?_
    | with_reducible refine r_asg ?_
    | with_reducible refine r_ret ?_
    | with_reducible refine r_drop ?_
    | with_reducible refine r_next ?_
    | with_reducible refine r_ifS ?_
    | with_reducible refine r_par ?_
    | ((with_reducible refine r_parAt ?_); dsimp only [List.set])
    | walk_at "rdv"
    | with_reducible refine r_c ?_
    | with_reducible refine r_op ?_
    | with_reducible refine r_un ?_
    | with_reducible refine r_test ?_
    | with_reducible refine r_tB ?_
    | with_reducible refine r_and ?_
    | with_reducible refine r_or ?_
    | with_reducible refine r_not ?_
    | with_reducible refine r_andV ?_
    | with_reducible refine r_orV ?_
    | with_reducible refine r_notV ?_
    | with_reducible refine r_if ?_
    | with_reducible refine iteT ?_
    | with_reducible refine r_nT ?_
    | with_reducible refine r_nF ?_
    | with_reducible refine iteF ?_
    | with_reducible refine r_CB ?_
    | with_reducible refine r_nil ?_
    | with_reducible refine r_cons ?_
    | with_reducible refine r_tup ?_
    | with_reducible refine r_lst ?_
    | (with_reducible refine r_I0 ?_)
    | (with_reducible refine r_U ?_)
    | with_reducible refine r_eqI ?_
    | with_reducible refine r_neI ?_
    | with_reducible refine r_eqS ?_
    | with_reducible refine r_neS ?_
    | with_reducible refine r_gcd ?_
    | with_reducible refine r_abs ?_
    | with_reducible refine r_max ?_
    | with_reducible refine r_min ?_
    | with_reducible refine r_int ?_
    | with_reducible refine r_intB ?_
    | with_reducible refine r_reprB ?_
    | with_reducible refine q_int ?_
    | with_reducible refine q_intB ?_
    | with_reducible refine q_1 ?_
    | with_reducible refine r_for ?_
    | with_reducible refine r_rng1 ?_
    | with_reducible refine r_itl ?_
    | with_reducible refine r_zip ?_
    | with_reducible refine r_lc ?_
    | with_reducible refine q_2 ?_
    | refine q_len (.inl (.inl (by assumption))) ?_
    | refine r_fld ?_
    | with_reducible refine r_prop ?_
    | with_reducible refine r_call ?_
    | with_reducible refine r_meth ?_
    | with_reducible refine r_make ?_
    | walk_at "rds"
    | with_reducible refine r_gnil ?_
    | with_reducible refine r_gcons ?_
    | with_reducible refine r_gsub ?_
    | with_reducible refine r_fmt ?_
    | with_reducible refine r_js0 ?_
    | with_reducible refine r_js ?_
    | with_reducible refine r_fieldS ?_
    | with_reducible refine r_blV ?_
    | ((with_reducible refine r_I ?sd ?_); (case sd => walk_at "sd"))
    | dsimp only [L2.wipe, List.set])
local macro_rules
  | `(tactic| walk_at "sd") => `(tactic| first
    | assumption
    | (show (0 : Int) < _; decide)
    | (show (0 : Int) < _; omega)
    | (refine ⟨?_, ?_⟩ <;> first | decide | omega))
local macro_rules
  | `(tactic| walk_at "st") => `(tactic| simp only [L2.cxOf, L2.start, List.map_cons, List.map_nil, List.length_cons, List.length_nil, Nat.reduceAdd, Nat.reduceSub, List.replicate_succ, List.replicate_zero, List.cons_append, List.nil_append, Nat.sub_self, Nat.add_one_sub_one, List.replicate])

local macro_rules
  | `(tactic| walk_at "rd") => `(tactic| first
    | with_reducible refine r_mko ?_
    | with_reducible refine r_sl ?_
    | with_reducible refine r_noPart ?_
    | with_reducible refine r_part ?_
    | with_reducible refine r_partI ?_
    | with_reducible refine r_chain ?_
    | with_reducible refine r_xf ?_)

/-! ### what the law draws with -/
abbrev Tb (K : PySem.W.Frag) : List (Addr × Str) := tabL K ftabs
def PotAt (H : Hp) (p : Addr) : Prop := ∃ c0 c1, H p = some (.lst [.int c0, .int c1]) ∧ 0 ≤ c1 ∧ c1 < 1000000000000
theorem PotAt.same {H H' : Hp} {p : Addr} (h : PotAt H p) (s : Same H H') : PotAt H' p := let ⟨c0, c1, e, z⟩ := h; ⟨c0, c1, s _ _ e, z⟩
theorem PotAt.fr {T : List (Addr × Str)} {S : List Addr} {H H' : Hp} {p : Addr} (h : PotAt H p) (f : Fr T S H H') (hp : p ∉ S) : PotAt H' p := let ⟨c0, c1, e, z⟩ := h; ⟨c0, c1, f.at_ e trivial hp, z⟩
theorem PotAt.neq {p D : Addr} {H : Hp} (h : PotAt H p) (n : H D = none) : D ≠ p := by
  rintro rfl
  obtain ⟨c0, c1, e, _⟩ := h
  rw [n] at e
  cases e
theorem PotAt.off {p D : Addr} {H H' : Hp} (h : PotAt H p) (n : D ≠ p) (ne : ∀ b, b ≠ D → H' b = H b) : PotAt H' p := by
  obtain ⟨c0, c1, e, z⟩ := h
  exact ⟨c0, c1, by rw [ne p n.symm]; exact e, z⟩
theorem PotAt.set {K : PySem.W.Frag} {p : Addr} {S : List Addr} {H H' : Hp} (h : PotAt H p) (hp : p ∈ S) (ne : ∀ b, b ≠ p → H' b = H b) : Fr (Tb K) S H H' := by
  obtain ⟨c0, c1, e, _⟩ := h
  exact .set e trivial hp ne
def sp_pot (K : PySem.W.Frag) : Sp := fun vs H Q _ => ∃ a, ∃ ns : List Int, ∃ k, vs = [.ref a, .int k] ∧ SqL K H a (ns.map V.int) ∧ 0 ≤ k ∧ k < 1000 ∧ ∀ p H', H p = none → Same H H' → PotAt H' p → Q (.ref p) H'
def sp_take (K : PySem.W.Frag) : Sp := fun vs H Q _ => ∃ p m, vs = [.ref p, .int m] ∧ PotAt H p ∧ 0 < m ∧ m < 1073741824 ∧ ∀ d H', 0 ≤ d → d < m → PotAt H' p → Fr (Tb K) [p] H H' → Q (.int d) H'
def sp_pickL (K : PySem.W.Frag) : Sp := fun vs H Q _ => ∃ p l xs, vs = [.ref p, .ref l] ∧ PotAt H p ∧ H l = some (.lst xs) ∧ l ≠ p ∧ xs ≠ [] ∧ xs.length < 1000 ∧ ∀ x H', x ∈ xs → PotAt H' p → Fr (Tb K) [p] H H' → Q x H'
def sp_pickS (K : PySem.W.Frag) : Sp := fun vs H Q _ => ∃ p z, vs = [.ref p, .str z] ∧ PotAt H p ∧ 0 < z.length ∧ z.length < 1000 ∧ Ok8 z ∧ ∀ c H', c ∈ TL.tl z → PotAt H' p → Fr (Tb K) [p] H H' → Q (.str ⟨#[c]⟩) H'
def sp_pick (K : PySem.W.Frag) : Sp := fun vs H Q E => sp_pickL K vs H Q E ∨ sp_pickS K vs H Q E
section
variable {K : PySem.W.Frag} {H : Hp} {Q : VK} {E : XK} {p a : Addr}
theorem use_pot {ns : List Int} {k : Int} (h : SqL K H a (ns.map V.int)) (h0 : 0 ≤ k) (h1 : k < 1000) (q : ∀ p H', H p = none → Same H H' → PotAt H' p → Q (.ref p) H') : sp_pot K ([.ref a, .int k] ++ []) H Q E := ⟨a, ns, k, rfl, h, h0, h1, q⟩
theorem use_take {m : Int} (h : PotAt H p) (h0 : 0 < m) (h1 : m < 1073741824) (q : ∀ d H', 0 ≤ d → d < m → PotAt H' p → Fr (Tb K) [p] H H' → Q (.int d) H') : sp_take K ([.ref p, .int m] ++ []) H Q E := ⟨p, m, rfl, h, h0, h1, q⟩
theorem use_pickL {l : Addr} {xs : List V} (h : PotAt H p) (hl : H l = some (.lst xs)) (hn : l ≠ p) (h0 : xs ≠ []) (h1 : xs.length < 1000) (q : ∀ x H', x ∈ xs → PotAt H' p → Fr (Tb K) [p] H H' → Q x H') : sp_pick K ([.ref p, .ref l] ++ []) H Q E := .inl ⟨p, l, xs, rfl, h, hl, hn, h0, h1, q⟩
theorem use_pickS {z : Str} (h : PotAt H p) (h0 : 0 < z.length) (h1 : z.length < 1000) (hz : Ok8 z) (q : ∀ c H', c ∈ TL.tl z → PotAt H' p → Fr (Tb K) [p] H H' → Q (.str ⟨#[c]⟩) H') : sp_pick K ([.ref p, .str z] ++ []) H Q E := .inr ⟨p, z, rfl, h, h0, h1, hz, q⟩
theorem r_setL {l : Addr} {xs : List V} {m : Int} {j : Nat} {v : V} {QH : Hp → Prop} (h : H l = some (.lst xs)) (e : ixN xs.length m = some j) (q : ∀ H2, H2 l = some (.lst (xs.set j v)) → (∀ b, b ≠ l → H2 b = H b) → QH H2) : rSetL (.ref l) (.int m) v H QH := ⟨l, xs, m, j, rfl, rfl, h, e, q _ upd_same fun b hb => upd_ne hb⟩
end
theorem r_bm {K : PySem.W.Frag} {T : String} {r : V → List V → Hp → VK → Prop} {to : TE} {t : TA} {σ : L2.St} {H : Hp} {Q : VK} (q : to σ H fun x H1 => tyV K T x H1 ∧ t σ H1 fun xs H2 => r x xs H2 Q) : tBM K T r to t σ H Q := q
theorem q_list {K : PySem.W.Frag} {p : Addr} {xs : List V} {H : Hp} {A : Prop} (h : H p = some (.lst xs)) (q : A) : tyV K "list" (.ref p) H ∧ A := ⟨.inl ⟨rfl, _, .inl (.inl h)⟩, q⟩
theorem q_itl {K : PySem.W.Frag} {a : Addr} {xs : List V} {H : Hp} {A : Addr → Prop} (h : H a = some (.lst xs)) (q : A a) : ∃ a', V.ref a = .ref a' ∧ (∃ xs, SqL K H a' xs) ∧ A a' := ⟨a, rfl, ⟨xs, .inl (.inl h)⟩, q⟩
theorem q_par {v w : V} {A : V → V → Prop} (q : A v w) : ∃ v' w', [v, w] = [v', w'] ∧ A v' w' := ⟨v, w, rfl, q⟩
theorem cm_small {i j : Int} (h1 : -18446744073709551616 < i) (h2 : i < 18446744073709551616) (h3 : -18446744073709551616 < j) (h4 : j < 18446744073709551616) : CMulW i j :=
  Sz.cm (a := 64) (b := 64) (by unfold Sz; omega) (by unfold Sz; omega) (by decide) (by decide) (by decide)
theorem g_grow {D : Addr} {acc : List V} {y : V} {Nx : Hp → Prop} {H : Hp} (h : H D = some (.lst acc)) (hz : acc.length < 100000) (q : ∀ H2, H2 D = some (.lst (acc ++ [y])) → (∀ b, b ≠ D → H2 b = H b) → Nx H2) : Grow D Nx y H := ⟨acc, h, Nat.lt_of_lt_of_le hz (by decide), q _ upd_same fun b hb => upd_ne hb⟩

local macro_rules
  | `(tactic| walk_at "sd") => `(tactic| first
    | exact cm_small (by omega) (by omega) (by omega) (by omega)
    | (show (0 : Int) ≤ _ ∧ _; decide +kernel))
local macro_rules
  | `(tactic| walk_at "rd") => `(tactic| first
    | with_reducible refine r_bm ?_
    | refine q_list (by assumption) ?_
    | refine q_itl (by assumption) ?_
    | ((with_reducible refine q_par ?_); dsimp only [List.set])
    | with_reducible refine q_par ?_
    | refine q_lenL (.inl (.inl (by assumption))) ?_
    | refine r_ixL (.inl (.inl (by assumption))) (by rfl) ?_
    | refine r_ixT (.inl (.inl (by assumption))) (by rfl) ?_)

local macro_rules
  | `(tactic| walk_at "rd") => `(tactic| first
    | with_reducible refine r_its ?_
    | with_reducible refine r_brk ?_
    | refine q_lenS (by assumption) ?_
    | refine q_str ?_)

/-! ### checks, rows -/
def kindsW : List String := ["NoneType", "bool", "int", "str", "list", "tuple", "dict"]
theorem tyx_str {K : PySem.W.Frag} {H : Hp} {z : Str} : TyX K H (.str z) (.type "str") := .base (.str z)
/-- a value of another kind than the strings -/
def NoStr (K : PySem.W.Frag) (H : Hp) (v : V) : Prop := ∃ T, TyX K H v (.type T) ∧ T ∈ kindsW ∧ T ≠ "str"
def sp_chk (K : PySem.W.Frag) : Sp := fun vs H Q E => ∃ v, vs = [v] ∧ ((∃ z, v = .str z ∧ Q .non H) ∨ (NoStr K H v ∧ ExV (He.ga K "InvalidRecord") "value" v H E))
/-- what is no record: another kind, or a text with a line feed -/
def NoRec (K : PySem.W.Frag) (H : Hp) (v : V) : Prop := NoStr K H v ∨ ∃ z, v = .str z ∧ 10 ∈ TL.tl z
def sp_chr (K : PySem.W.Frag) : Sp := fun vs H Q E => ∃ v, vs = [v] ∧ ((∃ z, v = .str z ∧ 10 ∉ TL.tl z ∧ Q .non H) ∨ (NoRec K H v ∧ ExV (He.ga K "InvalidRecord") "value" v H E))
def sp_cof (K : PySem.W.Frag) : Sp := fun vs H Q _ => ∃ z, vs = [.str z] ∧ Asc z ∧ Q (.int (chkN (TL.tl z) : Nat)) H
/-- the row of a record -/
def rowS (z : Str) : Str := mkS (rowL (TL.tl z))
def sp_sealed (K : PySem.W.Frag) : Sp := fun vs H Q E => ∃ v, vs = [v] ∧ ((∃ z, v = .str z ∧ 10 ∉ TL.tl z ∧ Asc z ∧ z.length ≤ 90000 ∧ Q (.str (rowS z)) H) ∨ (NoRec K H v ∧ ExV (He.ga K "InvalidRecord") "value" v H E))
theorem lnL : sizeLine = 16777216 := by decide +kernel
theorem tlf : TL.tl (Str.ofString "\n") = [10] := by decide +kernel
theorem tsp : TL.tl (Str.ofString " ") = [32] := by decide +kernel
theorem lf : (Str.ofString "\n").length = 1 := by decide +kernel
theorem lsp : (Str.ofString " ").length = 1 := by decide +kernel
theorem lem : Str.empty.length = 0 := by decide +kernel
theorem tem : TL.tl Str.empty = [] := by decide +kernel
theorem sealed_row (z : Str) : Str.empty ++ Str.ofString (toString ((z.length : Nat) : Int)) ++ Str.ofString " " ++ Str.ofString (toString ((chkN (TL.tl z) : Nat) : Int)) ++ Str.ofString " " ++ z ++ Str.ofString "\n" = rowS z := by
  refine TL.ext_tl ?_
  simp only [TL.tl_append, tem, tlf, tsp, tl_toS]
  show _ = rowL (TL.tl z)
  unfold rowL
  rw [TL.len_tl]
  simp

section
variable {P : Program} {w : World} {K : PySem.W.Frag} {mg : Str → Option Value} {base : Heap}
theorem sc_InvalidRecordU_initU : FnScope ["self", "value"] ["self", "value"] (defScope s_InvalidRecordU_initU) := ⟨rfl, rfl, rfl, by decide +kernel, rfl, by decide +kernel, by decide +kernel⟩
theorem ok_InvalidRecordU_initU {gg : Bool} (T : Tx K mg) : FnG P w K mg base CX0 gg 1 (He.ma K (He.ga K "InvalidRecord") "__init__") T.fd_InvalidRecordU_initU ["self", "value"] (sp_exi K "value") := by
  refine funG T.F_InvalidRecordU_initU sc_InvalidRecordU_initU (fun vs H Q E h => ?_) (fun cdv A outer s H vs Q E hr hg h => ?_)
  · obtain ⟨a, C, v, e, _⟩ := h; rw [e]; rfl
  · obtain ⟨a, C, v, rfl, o, no, ha, q⟩ := h
    refine ⟨_, pss_one (ps_ost (pv 0) (pv 1)), ?_⟩
    walk_at "st"
    refine ⟨_, rfl, _, rfl, a, C, rfl, o, no, .inl ⟨ha, fun dx n1 n2 => q dx n1 n2⟩⟩
theorem sc_check_string : FnScope ["value"] ["value"] (defScope s_check_string) := ⟨rfl, rfl, rfl, by decide +kernel, rfl, by decide +kernel, by decide +kernel⟩
theorem ok_check_string {gg : Bool} (T : Tx K mg) : FnG P w K mg base (L2.CX P w) gg 3 (He.ga K "check_string") T.fd_check_string ["value"] (sp_chk K) := by
  refine funX T.F_check_string sc_check_string (fun vs H Q E h => ?_) (fun cdv A outer s H vs Q E _hc hr hg h => ?_)
  · obtain ⟨v, e, _⟩ := h; rw [e]; rfl
  · obtain ⟨v, rfl, h⟩ := h
    refine ⟨_, (pss_one (ps_if (pt_not (pt_val (pe_callB call_isi (by rfl) T.m_isinstance (by decide +kernel) (pa_cons (pv 0) (pa_cons (pe_bltn (v := .ty "str") (u := .type "str") (by rfl) T.m_str (by decide +kernel) rfl) pa_nil))))) (pss_one (ps_raise rfl (takes_of rfl rfl rfl rfl) (pmk_oex T.x_InvalidRecord.o T.x_InvalidRecord.i T.x_InvalidRecord.t (g_ok (ok_InvalidRecordU_initU T)) (hr.mono (by decide)) T.b_InvalidRecordU_initU .nil pass0 (by rfl) T.g_InvalidRecord (pa_cons (pv 0) pa_nil)))) pss_nil)), ?_⟩
    walk_at "st"
    repeat walk_at "rd"
    rcases h with ⟨z, rfl, q⟩ | ⟨⟨tn, ty, hT, nT⟩, q⟩
    · refine r_isi (b := true) tyx_str (.ty _) (kit_ty (by decide +kernel)) ?_
      repeat walk_at "rd"
      exact q
    · simp only [kindsW, List.mem_cons, List.not_mem_nil, or_false] at hT
      rcases hT with rfl | rfl | rfl | rfl | rfl | rfl | rfl
      all_goals first | exact absurd rfl nT | skip
      all_goals
        refine r_isi (b := false) ty (.ty _) (kit_ty (by decide +kernel)) ?_
        repeat walk_at "rd"
        exact use_raise T.x_InvalidRecord.o T.nf_InvalidRecord rfl q
theorem sc_check_record : FnScope ["value"] ["value"] (defScope s_check_record) := ⟨rfl, rfl, rfl, by decide +kernel, rfl, by decide +kernel, by decide +kernel⟩
theorem ok_check_record {gg : Bool} (T : Tx K mg) : FnG P w K mg base (L2.CX P w) gg 3 (He.ga K "check_record") T.fd_check_record ["value"] (sp_chr K) := by
  refine funX T.F_check_record sc_check_record (fun vs H Q E h => ?_) (fun cdv A outer s H vs Q E _hc hr hg h => ?_)
  · obtain ⟨v, e, _⟩ := h; rw [e]; rfl
  · obtain ⟨v, rfl, h⟩ := h
    refine ⟨_, (pss_one (ps_if (PW.pt (pw_or (pt_not (pt_val (pe_callB call_isi (by rfl) T.m_isinstance (by decide +kernel) (pa_cons (pv 0) (pa_cons (pe_bltn (v := .ty "str") (u := .type "str") (by rfl) T.m_str (by decide +kernel) rfl) pa_nil))))) (pw_or1 (pt_cmpR op_in_sign pe_str (pv 0) (by rfl))))) (pss_one (ps_raise rfl (takes_of rfl rfl rfl rfl) (pmk_oex T.x_InvalidRecord.o T.x_InvalidRecord.i T.x_InvalidRecord.t (g_ok (ok_InvalidRecordU_initU T)) (hr.mono (by decide)) T.b_InvalidRecordU_initU .nil pass0 (by rfl) T.g_InvalidRecord (pa_cons (pv 0) pa_nil)))) pss_nil)), ?_⟩
    walk_at "st"
    repeat walk_at "rd"
    rcases h with ⟨z, rfl, nz, q⟩ | ⟨⟨tn, ty, hT, nT⟩ | ⟨z, rfl, hz⟩, q⟩
    · refine r_isi (b := true) tyx_str (.ty _) (kit_ty (by decide +kernel)) ?_
      repeat walk_at "rd"
      refine ⟨10, z, rfl, rfl, ?_⟩
      rw [decide_eq_false nz]
      repeat walk_at "rd"
      exact q
    · simp only [kindsW, List.mem_cons, List.not_mem_nil, or_false] at hT
      rcases hT with rfl | rfl | rfl | rfl | rfl | rfl | rfl
      all_goals first | exact absurd rfl nT | skip
      all_goals
        refine r_isi (b := false) ty (.ty _) (kit_ty (by decide +kernel)) ?_
        repeat walk_at "rd"
        exact use_raise T.x_InvalidRecord.o T.nf_InvalidRecord rfl q
    · refine r_isi (b := true) tyx_str (.ty _) (kit_ty (by decide +kernel)) ?_
      repeat walk_at "rd"
      refine ⟨10, z, rfl, rfl, ?_⟩
      rw [decide_eq_true hz]
      repeat walk_at "rd"
      exact use_raise T.x_InvalidRecord.o T.nf_InvalidRecord rfl q
theorem sc_check_of : FnScope ["record", "check", "character"] ["record"] (defScope s_check_of) := ⟨rfl, rfl, rfl, by decide +kernel, rfl, by decide +kernel, by decide +kernel⟩
theorem ok_check_of {gg : Bool} (T : Tx K mg) : FnG P w K mg base CX0 gg 1 (He.ga K "check_of") T.fd_check_of ["record"] (sp_cof K) := by
  refine funG T.F_check_of sc_check_of (fun vs H Q E h => ?_) (fun cdv A outer s H vs Q E hr hg h => ?_)
  · obtain ⟨z, e, _⟩ := h; rw [e]; rfl
  · obtain ⟨z, rfl, hz, q⟩ := h
    refine ⟨_, (pss_cons (ps_set (i := 1) sc_check_of.nd rfl (by first | exact Or.inl rfl | exact Or.inr rfl) (pe_glob (v := .int 7) (by rfl) T.g_FIRST_CHECK.choose_spec ⟨_, rfl⟩))
    (pss_cons (ps_for PassesOwn.never (by rfl) (pi_str (pv 0)) (pg_name (i := 2) sc_check_of.nd rfl (by first | exact Or.inl rfl | exact Or.inr rfl)) (pss_one (ps_set (i := 1) sc_check_of.nd rfl (by first | exact Or.inl rfl | exact Or.inr rfl) (pe_op op_mod (pe_op op_add (pe_op op_mulW (pe_glob (v := .int 31) (by rfl) T.g_CHECK_FACTOR.choose_spec ⟨_, rfl⟩) (pv 1)) (pe_callB call_ord (by rfl) T.m_ord (by decide +kernel) (pa_cons (pv 2) pa_nil))) (pe_glob (v := .int 1000003) (by rfl) T.g_CHECK_MODULUS.choose_spec ⟨_, rfl⟩)))))
    (pss_one (ps_ret (pv 1))))), ?_⟩
    walk_at "st"
    repeat walk_at "rd"
    refine q_its ?_
    refine u_str (fun i σ H' => ∃ x, σ = [some (V.str z), some (V.int (chkN ((TL.tl z).take i) : Nat)), x] ∧ H' = H) ⟨_, rfl, rfl⟩ ?_ ?_
    · rintro i c σ H1 hc ⟨x, rfl, rfl⟩
      have l0 := chk_lt ((TL.tl z).take i)
      have c0 := hz c (List.mem_of_getElem? hc)
      repeat walk_at "rd"
      refine ⟨_, rfl, rfl, ?_⟩
      repeat walk_at "rd"
      exact ⟨_, by
        rw [chk_step hc]
        have e : ((31 * ((chkN (List.take i (TL.tl z)) : Nat) : Int) + ((#[c].getD 0 0 : Nat) : Int)) % 1000003) = (((31 * chkN (List.take i (TL.tl z)) + c) % 1000003 : Nat) : Int) := by
          show (31 * ((chkN (List.take i (TL.tl z)) : Nat) : Int) + (c : Int)) % 1000003 = _
          omega
        rw [← e], rfl⟩
    · rintro σ H1 ⟨x, rfl, rfl⟩
      repeat walk_at "rd"
      rw [List.take_length]
      exact q
theorem sc_sealed : FnScope ["record"] ["record"] (defScope s_sealed) := ⟨rfl, rfl, rfl, by decide +kernel, rfl, by decide +kernel, by decide +kernel⟩
theorem ok_sealed {gg : Bool} (T : Tx K mg) : FnG P w K mg base (L2.CX P w) gg 4 (He.ga K "sealed") T.fd_sealed ["record"] (sp_sealed K) := by
  refine funX T.F_sealed sc_sealed (fun vs H Q E h => ?_) (fun cdv A outer s H vs Q E _hc hr hg h => ?_)
  · obtain ⟨v, e, _⟩ := h; rw [e]; rfl
  · obtain ⟨v, rfl, h⟩ := h
    refine ⟨_, (pss_cons (ps_expr (pg_call (ok_check_record T) (hr.mono (by decide)) hg (by rfl) T.g_check_record T.F_check_record.kp T.b_check_record .nil (passX (takes_of rfl rfl rfl rfl) (fun _ _ _ _ h => h)) (pa_cons (pv 0) pa_nil)))
    (pss_one (ps_ret (pe_joined (.cons (pe_fmt (pe_callB call_len (by rfl) T.m_len (by decide +kernel) (pa_cons (pv 0) pa_nil))) (.cons pe_str (.cons (pe_fmt (pg_call (ok_check_of T) (hr.mono (by decide)) hg (by rfl) T.g_check_of T.F_check_of.kp T.b_check_of .nil pass0 (pa_cons (pv 0) pa_nil))) (.cons pe_str (.cons (pe_fmt (pv 0)) (.cons pe_str .nil)))))))))), ?_⟩
    walk_at "st"
    repeat walk_at "rd"
    rcases h with ⟨z, rfl, nz, az, lz, q⟩ | ⟨nr, q⟩
    · refine ⟨_, rfl, .inl ⟨z, rfl, nz, ?_⟩⟩
      repeat walk_at "rd"
      have c0 := chk_lt (TL.tl z)
      have y1 := int_text_len_1921 (log_small (n := z.length) (by omega))
      have y2 := int_text_len_1921 (log_small (n := chkN (TL.tl z)) (by omega))
      refine q_lenS (by omega) ?_
      refine q_fmtI (log_small (n := z.length) (by omega)) ?_
      repeat walk_at "rd"
      refine q_js (by simp only [PySem.Str.length_append, lem]; rw [lnL]; omega) ?_
      repeat walk_at "rd"
      refine q_js (by simp only [PySem.Str.length_append, lem, lsp]; rw [lnL]; omega) ?_
      repeat walk_at "rd"
      refine ⟨z, rfl, az, ?_⟩
      refine q_fmtI (log_small (n := chkN (TL.tl z)) (by omega)) ?_
      refine q_js (by simp only [PySem.Str.length_append, lem, lsp]; rw [lnL]; omega) ?_
      repeat walk_at "rd"
      refine q_js (by simp only [PySem.Str.length_append, lem, lsp]; rw [lnL]; omega) ?_
      repeat walk_at "rd"
      refine q_fmtS (by rw [lnL]; omega) ?_
      refine q_js (by simp only [PySem.Str.length_append, lem, lsp]; rw [lnL]; omega) ?_
      repeat walk_at "rd"
      refine q_js (by simp only [PySem.Str.length_append, lem, lsp, lf]; rw [lnL]; omega) ?_
      repeat walk_at "rd"
      rw [sealed_row]
      exact q
    · exact ⟨_, rfl, .inr ⟨nr, q⟩⟩

end
/-- a line with its line feed: its record, if it is a row -/
def sp_rir (K : PySem.W.Frag) : Sp := fun vs H Q _ => ∃ l : List Nat, vs = [.str (mkS (l ++ [10]))] ∧ 10 ∉ l ∧ (∀ c ∈ l, c < 128) ∧ l.length ≤ 80000 ∧ ∀ H', Same H H' → Q (if okL l = true then .str (mkS (recL l)) else .non) H'
def sp_whole (K : PySem.W.Frag) : Sp := fun vs H Q E => ∃ v, vs = [v] ∧ ((∃ z, v = .str z ∧ Asc z ∧ z.length ≤ 70000 ∧ ∀ p H', H p = none → Same H H' → H' p = some (.lst ((whoL (lnsL (TL.tl z))).map fun l => V.str (mkS l))) → Q (.ref p) H') ∨ (NoStr K H v ∧ ExV (He.ga K "InvalidRecord") "value" v H E))

section
variable {P : Program} {w : World} {K : PySem.W.Frag} {mg : Str → Option Value} {base : Heap}
theorem sc_record_in_row : FnScope ["text", "_", "rest", "record"] ["text"] (defScope s_record_in_row) := ⟨rfl, rfl, rfl, by decide +kernel, rfl, by decide +kernel, by decide +kernel⟩
theorem ok_record_in_row {gg : Bool} (T : Tx K mg) : FnG P w K mg base CX0 gg 5 (He.ga K "record_in_row") T.fd_record_in_row ["text"] (sp_rir K) := by
  refine funG T.F_record_in_row sc_record_in_row (fun vs H Q E h => ?_) (fun cdv A outer s H vs Q E hr hg h => ?_)
  · obtain ⟨l, e, _⟩ := h; rw [e]; rfl
  · obtain ⟨l, rfl, nl, al, hl, q⟩ := h
    refine ⟨_, (pss_cons (ps_asg (pe_bm PySem.F.plainAttrs_str PySem.F.slot_str_partition PySem.F.type_str_partition mt_partition (pe_slice sl_str (pv 0) po_none (po_some (pe_un un_neg pe_int))) (pa_cons pe_str pa_nil)) (pg_tupK (K' := K) (n := 3) (by rfl) (pgs_cons (pg_name (i := 1) sc_record_in_row.nd rfl (by first | exact Or.inl rfl | exact Or.inr rfl)) (pgs_cons (pg_name (i := 1) sc_record_in_row.nd rfl (by first | exact Or.inl rfl | exact Or.inr rfl)) (pgs_cons (pg_name (i := 2) sc_record_in_row.nd rfl (by first | exact Or.inl rfl | exact Or.inr rfl)) pgs_nil)))))
    (pss_cons (ps_asg (pe_bm PySem.F.plainAttrs_str PySem.F.slot_str_partition PySem.F.type_str_partition mt_partition (pv 2) (pa_cons pe_str pa_nil)) (pg_tupK (K' := K) (n := 3) (by rfl) (pgs_cons (pg_name (i := 1) sc_record_in_row.nd rfl (by first | exact Or.inl rfl | exact Or.inr rfl)) (pgs_cons (pg_name (i := 1) sc_record_in_row.nd rfl (by first | exact Or.inl rfl | exact Or.inr rfl)) (pgs_cons (pg_name (i := 3) sc_record_in_row.nd rfl (by first | exact Or.inl rfl | exact Or.inr rfl)) pgs_nil)))))
    (pss_one (ps_ret (pe_ifExp (PW.pt (pw_and (pt_cmpR op_notIn_sign pe_str (pv 3) (by rfl)) (pw_and1 (pt_cmpR op_eq (pg_call (ok_sealed T) (hr.mono (by decide)) hg (by rfl) T.g_sealed T.F_sealed.kp T.b_sealed .nil passN (pa_cons (pv 3) pa_nil)) (pv 0) (nomark _))))) (pv 3) pe_non))))), ?_⟩
    walk_at "st"
    repeat walk_at "rd"
    refine r_cutS (by rw [TL.len_tl, tl_mkS, List.length_append]; show _ + 1 ≤ _; omega) ?_
    have ei : cutS (mkS (l ++ [10])) none (some (-1)) = mkS l := TL.ext_tl (by rw [tl_ini, tl_mkS, List.dropLast_concat, tl_mkS])
    rw [ei]
    repeat walk_at "rd"
    have ll : (mkS l).length = l.length := TL.len_tl _
    refine ⟨_, _, rfl, rfl, by rw [lsp]; rfl, by rw [lnL]; omega, fun p1 hp1 => ?_⟩
    obtain ⟨H1, m1, eH1, s1, e1⟩ := part_heap (a := mkS l) tsp hp1
    rw [eH1]
    rw [tl_mkS] at e1
    refine r_gtup (.inl (.inl e1)) (by rfl) ?_
    repeat walk_at "rd"
    have l1 := aft_len 32 l
    refine ⟨_, _, rfl, rfl, by rw [lsp]; rfl, by rw [lnL, TL.len_tl, tl_mkS]; omega, fun p2 hp2 => ?_⟩
    obtain ⟨H2, m2, eH2, s2, e2⟩ := part_heap (a := mkS (aft 32 l)) tsp hp2
    rw [eH2]
    rw [tl_mkS] at e2
    refine r_gtup (.inl (.inl e2)) (by rfl) ?_
    repeat walk_at "rd"
    have nr : 10 ∉ recL l := fun z => nl (rec_mem z)
    have lr := rec_len l
    refine ⟨10, mkS (recL l), rfl, rfl, ?_⟩
    rw [show (mkS (recL l)).cps.toList = recL l from rfl, decide_eq_false nr]
    repeat walk_at "rd"
    refine ⟨_, rfl, .inl ⟨mkS (recL l), rfl, nr, fun c hc => al c (rec_mem hc), by rw [TL.len_tl, tl_mkS]; omega, ?_⟩⟩
    repeat walk_at "rd"
    refine r_dec (fun e => ?_) (fun e => ?_)
    · repeat walk_at "rd"
      have z := q H2 (s1.trans s2)
      rw [if_pos (show okL l = true from decide_eq_true (tl_inj2.mp e))] at z
      exact z
    · repeat walk_at "rd"
      have z := q H2 (s1.trans s2)
      rw [if_neg (show ¬ okL l = true from fun ok => e (tl_inj2.mpr (of_decide_eq_true ok)))] at z
      exact z
theorem sc_whole_records : FnScope ["text", "lines", "found", "line", "record"] ["text"] (defScope s_whole_records) := ⟨rfl, rfl, rfl, by decide +kernel, rfl, by decide +kernel, by decide +kernel⟩
theorem ok_whole_records {gg : Bool} (T : Tx K mg) : FnG P w K mg base (L2.CX P w) gg 6 (He.ga K "whole_records") T.fd_whole_records ["text"] (sp_whole K) := by
  refine funX T.F_whole_records sc_whole_records (fun vs H Q E h => ?_) (fun cdv A outer s H vs Q E _hc hr hg h => ?_)
  · obtain ⟨v, e, _⟩ := h; rw [e]; rfl
  · obtain ⟨v, rfl, h⟩ := h
    refine ⟨_, (pss_cons (ps_expr (pg_call (ok_check_string T) (hr.mono (by decide)) hg (by rfl) T.g_check_string T.F_check_string.kp T.b_check_string .nil (passX (takes_of rfl rfl rfl rfl) (fun _ _ _ _ h => h)) (pa_cons (pv 0) pa_nil)))
    (pss_cons (ps_set (i := 1) sc_whole_records.nd rfl (by first | exact Or.inl rfl | exact Or.inr rfl) (pe_slice sl_list (pe_bm PySem.F.plainAttrs_str PySem.F.slot_str_split PySem.F.type_str_split mt_split (pv 0) (pa_cons pe_str pa_nil)) po_none (po_some (pe_un un_neg pe_int))))
    (pss_cons (ps_set (i := 2) sc_whole_records.nd rfl (by first | exact Or.inl rfl | exact Or.inr rfl) (pe_lst pa_nil))
    (pss_cons (ps_for (passes_of rfl) (by rfl) (pi_list (pv 1)) (pg_name (i := 3) sc_whole_records.nd rfl (by first | exact Or.inl rfl | exact Or.inr rfl)) (pss_cons (ps_set (i := 4) sc_whole_records.nd rfl (by first | exact Or.inl rfl | exact Or.inr rfl) (pg_call (ok_record_in_row T) (hr.mono (by decide)) hg (by rfl) T.g_record_in_row T.F_record_in_row.kp T.b_record_in_row .nil pass0 (pa_cons (pe_joined (.cons (pe_fmt (pv 3)) (.cons pe_str .nil))) pa_nil)))
    (pss_cons (ps_if (pt_cmpR op_isN (pv 4) pe_non (nomark _)) (pss_one ps_break) pss_nil)
    (pss_one (ps_expr (pe_bm PySem.F.plainAttrs_list PySem.F.slot_list_append PySem.F.type_list_append mt_append (pv 2) (pa_cons (pv 4) pa_nil)))))))
    (pss_one (ps_ret (pv 2))))))), ?_⟩
    walk_at "st"
    repeat walk_at "rd"
    rcases h with ⟨z, rfl, az, lz, q⟩ | ⟨ns, q⟩
    · refine ⟨_, rfl, .inl ⟨z, rfl, ?_⟩⟩
      repeat walk_at "rd"
      refine ⟨_, _, rfl, rfl, by rw [lf]; rfl, by rw [lnL]; omega, r_strs (fun p1 H1 hp1 s1 e1 _ => ?_)⟩
      repeat walk_at "rd"
      refine r_slL (.inl (.inl e1)) (fun p2 H2 hp2 s2 e2 _ => ?_)
      rw [cut_ini, ← List.map_dropLast, lns_strs tlf, List.map_map] at e2
      repeat walk_at "rd"
      refine r_new (by show 0 ≤ 100000; decide) (fun p3 H3 hp3 s3 e3 _ => ?_)
      repeat walk_at "rd"
      have s13 := (s1.trans s2).trans s3
      obtain ⟨ls, els⟩ : ∃ ls, ls = lnsL (TL.tl z) := ⟨_, rfl⟩
      have e23 := s3 _ _ e2
      rw [← els] at e2 e23 q
      refine q_itl e23 ?_
      refine u_list (xs := ls.map fun l => V.str (mkS l)) (fun i σ H' => ∃ x y, ∃ as : List (List Nat), σ = [some (V.str z), some (V.ref p2), some (V.ref p3), x, y] ∧ Same H2 H' ∧ H' p3 = some (.lst (as.map fun l => V.str (mkS l))) ∧ whoL ls = as ++ whoL (ls.drop i) ∧ as.length ≤ i)
        ⟨_, _, [], rfl, s3, e3, rfl, by simp⟩ (fun i σ H' _ p => ?_) ?_ ?_
      · obtain ⟨x, y, as, rfl, s, _⟩ := p
        exact .inl (.inl (s _ _ e2))
      · rintro i x σ H4 hx ⟨x0, y0, as, rfl, s4, e4, w4, l4⟩
        rw [List.getElem?_map] at hx
        obtain ⟨l, hl, rfl⟩ := Option.map_eq_some_iff.mp hx
        have hm := List.mem_of_getElem? hl
        rw [els] at hm
        obtain ⟨nl, sl, ll⟩ := lns_mem _ (Nat.le_refl _) hm
        have il := (List.getElem?_eq_some_iff.mp hl).1
        have lls := lns_cnt (TL.tl z)
        rw [← els, ← TL.len_tl] at lls
        rw [← TL.len_tl] at ll
        repeat walk_at "rd"
        have ml : (mkS l).length = l.length := TL.len_tl _
        refine q_fmtS (by rw [lnL]; omega) ?_
        refine q_js (by simp only [PySem.Str.length_append, lem]; rw [lnL]; omega) ?_
        repeat walk_at "rd"
        refine q_js (by simp only [PySem.Str.length_append, lem, lf]; rw [lnL]; omega) ?_
        repeat walk_at "rd"
        rw [show Str.empty ++ mkS l ++ Str.ofString "\n" = mkS (l ++ [10]) from TL.ext_tl (by simp only [TL.tl_append, tem, tlf, tl_mkS, List.nil_append])]
        refine ⟨l, rfl, nl, fun c hc => az c (sl c hc), by omega, fun H5 s5 => ?_⟩
        rw [who_step hl] at w4
        have n3 := ne_of_none e2 hp3
        by_cases ok : okL l = true
        · rw [if_pos ok] at w4 ⊢
          repeat walk_at "rd"
          refine ⟨rfl, ?_⟩
          rw [show decide (V.str (mkS (recL l)) = V.non) = false from decide_eq_false (fun e => by cases e)]
          repeat walk_at "rd"
          refine q_list (s5 _ _ e4) ?_
          repeat walk_at "rd"
          refine q_grown (s5 _ _ e4) (by rw [List.length_map]; omega) (fun H6 e6 ne6 => ?_)
          refine ⟨_, _, as ++ [recL l], rfl, same_put (s4.trans s5) hp3 ne6, by rw [e6, List.map_append]; rfl, by rw [w4, List.append_assoc]; rfl, by rw [List.length_append]; show _ + 1 ≤ _; omega⟩
        · rw [if_neg ok] at w4 ⊢
          repeat walk_at "rd"
          refine ⟨rfl, ?_⟩
          rw [decide_eq_true rfl]
          repeat walk_at "rd"
          refine q p3 H5 (same_none (s1.trans s2) hp3) (((s1.trans s2).trans s4).trans s5) ?_
          rw [w4, List.append_nil]
          exact s5 _ _ e4
      · rintro σ H4 ⟨x0, y0, as, rfl, s4, e4, w4, l4⟩
        repeat walk_at "rd"
        rw [List.length_map, List.drop_length] at w4
        refine q p3 H4 (same_none (s1.trans s2) hp3) ((s1.trans s2).trans s4) ?_
        rw [w4, show whoL [] = [] from rfl, List.append_nil]
        exact e4
    · exact ⟨_, rfl, .inr ⟨ns, q⟩⟩

end
def sp_row : Sp := fun vs H Q _ => ∃ z, vs = [.str z] ∧ Asc z ∧ z.length ≤ 90000 ∧ Q (.str (rowS z)) H
def RecL (l : List Nat) : Prop := l.length ≤ 40 ∧ ∀ c ∈ l, c < 128 ∧ c ≠ 10
def sp_rec (K : PySem.W.Frag) : Sp := fun vs H Q _ => ∃ p, vs = [.ref p] ∧ PotAt H p ∧ ∀ z H', RecL (TL.tl z) → PotAt H' p → Fr (Tb K) [p] H H' → Q (.str z) H'
theorem law_row_eq (z : Str) : Str.ofString (toString ((z.length : Nat) : Int)) ++ Str.ofString " " ++ Str.ofString (toString ((chkN (TL.tl z) : Nat) : Int)) ++ Str.ofString " " ++ z ++ Str.ofString "\n" = rowS z := by
  rw [← sealed_row]
  refine TL.ext_tl ?_
  simp only [TL.tl_append, tem, List.nil_append]

section
variable {P : Program} {w : World} {K : PySem.W.Frag} {mg : Str → Option Value} {base : Heap}
theorem sc_l_pot : FnScope ["_law_script", "_law_k", "_law_cell"] ["_law_script", "_law_k"] (defScope s_l_pot) := ⟨rfl, rfl, rfl, by decide +kernel, rfl, by decide +kernel, by decide +kernel⟩
theorem ok_l_pot (T : Tx K mg) : FnG P w K mg base CX0 true 1 (He.ga K "_law_pot") T.fd_l_pot ["_law_script", "_law_k"] (sp_pot K) := by
  refine funG T.F_l_pot sc_l_pot (fun vs H Q E h => ?_) (fun cdv A outer s H vs Q E hr hg h => ?_)
  · obtain ⟨a, ns, k, e, _⟩ := h; rw [e]; rfl
  · obtain ⟨a, ns, k, rfl, hs, h0, h1, q⟩ := h
    refine ⟨_, (pss_cons (ps_set (i := 2) sc_l_pot.nd rfl (by first | exact Or.inl rfl | exact Or.inr rfl) (pe_op op_add (pe_op op_mulW pe_int (pv 1)) pe_int))
    (pss_cons (ps_if (pt_cmpR op_lt (pv 1) (pe_callB call_len (by rfl) T.m_len (by decide +kernel) (pa_cons (pv 0) pa_nil)) (nomark _)) (pss_one (ps_set (i := 2) sc_l_pot.nd rfl (by first | exact Or.inl rfl | exact Or.inr rfl) (pe_callB call_abs (by rfl) T.m_abs (by decide +kernel) (pa_cons (pe_ix (ix_listK (K' := K)) (pv 0) (pv 1) (fun _ _ => rfl)) pa_nil)))) pss_nil)
    (pss_one (ps_ret (pe_lst (pa_cons (pe_callB (call_max2 rfl) (by rfl) T.m_max (by decide +kernel) (pa_cons pe_int (pa_cons (pe_op op_sub (pv 2) (pe_op op_pow pe_int pe_int)) pa_nil))) (pa_cons (pe_op op_add (pe_op op_add (pe_op op_mulW (pe_op op_mod (pe_callTy call_int1 (by rfl) T.m_int (by decide +kernel) (pa_cons (pv 2) pa_nil)) pe_int) pe_int) (pe_op op_mulW pe_int (pv 1))) pe_int) pa_nil))))))), ?_⟩
    walk_at "st"
    repeat walk_at "rd"
    refine q_lenL hs ?_
    repeat walk_at "rd"
    refine r_dec (fun e => ?_) (fun e => ?_)
    · repeat walk_at "rd"
      obtain ⟨j, rfl⟩ := Int.eq_ofNat_of_zero_le h0
      rw [List.length_map] at e
      refine r_ixL (v := .int (ns.getD j 0)) hs (atI_nat (by rw [List.getElem?_map, List.getD_eq_getElem?_getD, List.getElem?_eq_getElem (by omega)]; rfl)) ?_
      repeat walk_at "rd"
      refine r_new (by show 2 ≤ 100000; decide) (fun p H2 hp s e2 _ => ?_)
      exact q p H2 hp s ⟨_, _, e2, by omega, by omega⟩
    · repeat walk_at "rd"
      refine r_new (by show 2 ≤ 100000; decide) (fun p H2 hp s e2 _ => ?_)
      exact q p H2 hp s ⟨_, _, e2, by omega, by omega⟩
theorem sc_l_take : FnScope ["_law_pot_here", "_law_many", "_law_digit"] ["_law_pot_here", "_law_many"] (defScope s_l_take) := ⟨rfl, rfl, rfl, by decide +kernel, rfl, by decide +kernel, by decide +kernel⟩
theorem ok_l_take (T : Tx K mg) : FnG P w K mg base CX0 true 1 (He.ga K "_law_take") T.fd_l_take ["_law_pot_here", "_law_many"] (sp_take K) := by
  refine funG T.F_l_take sc_l_take (fun vs H Q E h => ?_) (fun cdv A outer s H vs Q E hr hg h => ?_)
  · obtain ⟨p, m, e, _⟩ := h; rw [e]; rfl
  · obtain ⟨p, m, rfl, hp0, m0, m1, q⟩ := h
    obtain ⟨c0, c1, ep, z0, z1⟩ := id hp0
    refine ⟨_, (pss_cons (ps_if (pt_cmpR op_gt (pe_ix (ix_listK (K' := K)) (pv 0) pe_int (fun _ _ => rfl)) pe_int (nomark _)) (pss_cons (ps_asg (pe_callB call_divmod (by rfl) T.m_divmod (by decide +kernel) (pa_cons (pe_ix (ix_listK (K' := K)) (pv 0) pe_int (fun _ _ => rfl)) (pa_cons (pv 1) pa_nil))) (pg_tupK (K' := K) (n := 2) (by rfl) (pgs_cons (pg_sub (pv 0) pe_int set_list) (pgs_cons (pg_name (i := 2) sc_l_take.nd rfl (by first | exact Or.inl rfl | exact Or.inr rfl)) pgs_nil))))
    (pss_one (ps_ret (pv 2)))) pss_nil)
    (pss_cons (ps_asg (pe_op op_mod (pe_callTy call_int1 (by rfl) T.m_int (by decide +kernel) (pa_cons (pe_op op_add (pe_op op_mulW (pe_ix (ix_listK (K' := K)) (pv 0) pe_int (fun _ _ => rfl)) pe_int) pe_int) pa_nil)) pe_int) (pg_sub (pv 0) pe_int set_list))
    (pss_one (ps_ret (pe_op op_mod (pe_callTy call_int1 (by rfl) T.m_int (by decide +kernel) (pa_cons (pe_op op_fdiv (pe_op op_mod (pe_callTy call_int1 (by rfl) T.m_int (by decide +kernel) (pa_cons (pe_op op_mulW (pe_ix (ix_listK (K' := K)) (pv 0) pe_int (fun _ _ => rfl)) (pe_ix (ix_listK (K' := K)) (pv 0) pe_int (fun _ _ => rfl))) pa_nil)) pe_int) pe_int) pa_nil)) (pv 1)))))), ?_⟩
    walk_at "st"
    repeat walk_at "rd"
    refine r_dec (fun e => ?_) (fun e => ?_)
    · repeat walk_at "rd"
      refine ⟨⟨m0, m1⟩, fun r hr0 => ?_⟩
      have np : p ≠ r := ne_of_none ep hr0
      have s1 : Same H (upd H r (.tup [.int (c0 / m), .int (c0 % m)])) := fun b o eb => by rw [upd_ne (ne_of_none eb hr0)]; exact eb
      refine r_gtup (.inl (.inl upd_same)) (by rfl) ?_
      repeat walk_at "rd"
      refine r_setL (by rw [upd_ne np]; exact ep) (by rfl) (fun H3 e3 ne3 => ?_)
      have e3 : H3 p = some (.lst [.int (c0 / m), .int c1]) := e3
      repeat walk_at "rd"
      exact q (c0 % m) _ (Int.emod_nonneg _ (by omega)) (Int.emod_lt_of_pos _ m0) ⟨c0 / m, c1, e3, z0, z1⟩ ((Fr.same s1).trans ((hp0.same s1).set (by simp) ne3))
    · repeat walk_at "rd"
      refine r_setL ep (by rfl) (fun H3 e3 ne3 => ?_)
      have e3 : H3 p = some (.lst [.int c0, .int ((c1 * 48271 + 11027) % 2147483629)]) := e3
      repeat walk_at "rd"
      exact q _ _ (Int.emod_nonneg _ (by omega)) (Int.emod_lt_of_pos _ m0) ⟨c0, _, e3, by omega, by omega⟩ (hp0.set (by simp) ne3)
theorem sc_l_pick : FnScope ["_law_pot_here", "_law_some"] ["_law_pot_here", "_law_some"] (defScope s_l_pick) := ⟨rfl, rfl, rfl, by decide +kernel, rfl, by decide +kernel, by decide +kernel⟩
theorem ok_l_pickL (T : Tx K mg) : FnG P w K mg base CX0 true 2 (He.ga K "_law_pick") T.fd_l_pick ["_law_pot_here", "_law_some"] (sp_pickL K) := by
  refine funG T.F_l_pick sc_l_pick (fun vs H Q E h => ?_) (fun cdv A outer s H vs Q E hr hg h => ?_)
  · obtain ⟨p, l, xs, e, _⟩ := h; rw [e]; rfl
  · obtain ⟨p, l, xs, rfl, hp, hl, hn, h0, h1, q⟩ := h
    refine ⟨_, (pss_one (ps_ret (pe_ix (ix_listK (K' := K)) (pv 1) (pg_call (ok_l_take T) (hr.mono (by decide)) hg (by rfl) T.g_l_take T.F_l_take.kp T.b_l_take .nil pass0 (pa_cons (pv 0) (pa_cons (pe_callB call_len (by rfl) T.m_len (by decide +kernel) (pa_cons (pv 1) pa_nil)) pa_nil))) (fun _ _ => rfl)))), ?_⟩
    have hx : 0 < xs.length := List.length_pos_iff.mpr h0
    walk_at "st"
    repeat walk_at "rd"
    refine use_take hp (by omega) (by omega) (fun d H1 d0 d1 hp1 kp => ?_)
    have hl1 := kp.at_ hl trivial (by simpa using hn)
    obtain ⟨j, rfl⟩ := Int.eq_ofNat_of_zero_le d0
    repeat walk_at "rd"
    refine r_ixL (.inl (.inl hl1)) (atI_nat (List.getElem?_eq_getElem (by omega))) ?_
    exact q _ _ (List.getElem_mem _) hp1 kp

theorem ok_l_pickS (T : Tx K mg) : FnG P w K mg base CX0 true 2 (He.ga K "_law_pick") T.fd_l_pick ["_law_pot_here", "_law_some"] (sp_pickS K) := by
  refine funG T.F_l_pick sc_l_pick (fun vs H Q E h => ?_) (fun cdv A outer s H vs Q E hr hg h => ?_)
  · obtain ⟨p, z, e, _⟩ := h; rw [e]; rfl
  · obtain ⟨p, z, rfl, hp, h0, h1, hz, q⟩ := h
    refine ⟨_, (pss_one (ps_ret (pe_ix ix_str (pv 1) (pg_call (ok_l_take T) (hr.mono (by decide)) hg (by rfl) T.g_l_take T.F_l_take.kp T.b_l_take .nil pass0 (pa_cons (pv 0) (pa_cons (pe_callB call_len (by rfl) T.m_len (by decide +kernel) (pa_cons (pv 1) pa_nil)) pa_nil))) (fun _ _ => rfl)))), ?_⟩
    walk_at "st"
    have hl : z.length ≤ 100000 := by omega
    repeat walk_at "rd"
    refine use_take hp (by omega) (by omega) (fun d H1 d0 d1 hp1 kp => ?_)
    obtain ⟨j, rfl⟩ := Int.eq_ofNat_of_zero_le d0
    have hj : j < (TL.tl z).length := by rw [← len_tl]; omega
    repeat walk_at "rd"
    refine r_ixS hl (atI_nat (List.getElem?_eq_getElem hj)) ?_
    exact q _ _ (List.getElem_mem _) hp1 kp
theorem ok_l_pick (T : Tx K mg) : FnG P w K mg base CX0 true 2 (He.ga K "_law_pick") T.fd_l_pick ["_law_pot_here", "_law_some"] (sp_pick K) := (ok_l_pickL T).both (ok_l_pickS T)

theorem sc_l_check : FnScope ["_law_record_here", "_law_check_here", "_law_sign"] ["_law_record_here"] (defScope s_l_check) := ⟨rfl, rfl, rfl, by decide +kernel, rfl, by decide +kernel, by decide +kernel⟩
theorem ok_l_check (T : Tx K mg) : FnG P w K mg base CX0 true 1 (He.ga K "_law_check") T.fd_l_check ["_law_record_here"] (sp_cof K) := by
  refine funG T.F_l_check sc_l_check (fun vs H Q E h => ?_) (fun cdv A outer s H vs Q E hr hg h => ?_)
  · obtain ⟨z, e, _⟩ := h; rw [e]; rfl
  · obtain ⟨z, rfl, hz, q⟩ := h
    refine ⟨_, (pss_cons (ps_set (i := 1) sc_l_check.nd rfl (by first | exact Or.inl rfl | exact Or.inr rfl) pe_int)
    (pss_cons (ps_for PassesOwn.never (by rfl) (pi_str (pv 0)) (pg_name (i := 2) sc_l_check.nd rfl (by first | exact Or.inl rfl | exact Or.inr rfl)) (pss_one (ps_set (i := 1) sc_l_check.nd rfl (by first | exact Or.inl rfl | exact Or.inr rfl) (pe_op op_mod (pe_callTy call_int1 (by rfl) T.m_int (by decide +kernel) (pa_cons (pe_op op_add (pe_op op_mulW pe_int (pv 1)) (pe_callB call_ord (by rfl) T.m_ord (by decide +kernel) (pa_cons (pv 2) pa_nil))) pa_nil)) pe_int))))
    (pss_one (ps_ret (pv 1))))), ?_⟩
    walk_at "st"
    repeat walk_at "rd"
    refine q_its ?_
    refine u_str (fun i σ H' => ∃ x, σ = [some (V.str z), some (V.int (chkN ((TL.tl z).take i) : Nat)), x] ∧ H' = H) ⟨_, rfl, rfl⟩ ?_ ?_
    · rintro i c σ H1 hc ⟨x, rfl, rfl⟩
      have l0 := chk_lt ((TL.tl z).take i)
      have c0 := hz c (List.mem_of_getElem? hc)
      repeat walk_at "rd"
      refine ⟨_, rfl, rfl, ?_⟩
      repeat walk_at "rd"
      exact ⟨_, by
        rw [chk_step hc]
        have e : ((31 * ((chkN (List.take i (TL.tl z)) : Nat) : Int) + ((#[c].getD 0 0 : Nat) : Int)) % 1000003) = (((31 * chkN (List.take i (TL.tl z)) + c) % 1000003 : Nat) : Int) := by
          show (31 * ((chkN (List.take i (TL.tl z)) : Nat) : Int) + (c : Int)) % 1000003 = _
          omega
        rw [← e], rfl⟩
    · rintro σ H1 ⟨x, rfl, rfl⟩
      repeat walk_at "rd"
      rw [List.take_length]
      exact q
theorem sc_l_row : FnScope ["_law_record_here"] ["_law_record_here"] (defScope s_l_row) := ⟨rfl, rfl, rfl, by decide +kernel, rfl, by decide +kernel, by decide +kernel⟩
theorem ok_l_row (T : Tx K mg) : FnG P w K mg base CX0 true 2 (He.ga K "_law_row") T.fd_l_row ["_law_record_here"] (sp_row) := by
  refine funG T.F_l_row sc_l_row (fun vs H Q E h => ?_) (fun cdv A outer s H vs Q E hr hg h => ?_)
  · obtain ⟨z, e, _⟩ := h; rw [e]; rfl
  · obtain ⟨z, rfl, hz, hl, q⟩ := h
    refine ⟨_, (pss_one (ps_ret (pe_op op_add_str (pe_op op_add_str (pe_op op_add_str (pe_op op_add_str (pe_op op_add_str (pe_callTy call_str_int (by rfl) T.m_str (by decide +kernel) (pa_cons (pe_callB call_len (by rfl) T.m_len (by decide +kernel) (pa_cons (pv 0) pa_nil)) pa_nil)) pe_str) (pe_callTy call_str_int (by rfl) T.m_str (by decide +kernel) (pa_cons (pg_call (ok_l_check T) (hr.mono (by decide)) hg (by rfl) T.g_l_check T.F_l_check.kp T.b_l_check .nil pass0 (pa_cons (pv 0) pa_nil)) pa_nil))) pe_str) (pv 0)) pe_str))), ?_⟩
    walk_at "st"
    have hl1 : z.length ≤ 100000 := by omega
    have c0 := chk_lt (TL.tl z)
    have y1 := int_text_len_1921 (log_small (n := z.length) (by omega))
    have y2 := int_text_len_1921 (log_small (n := chkN (TL.tl z)) (by omega))
    repeat walk_at "rd"
    refine ⟨log_small (n := z.length) (by omega), ?_⟩
    repeat walk_at "rd"
    refine ⟨_, _, rfl, rfl, ?_, ?_⟩
    · simp only [PySem.Str.length_append, lsp, lf]; rw [lnL]; omega
    repeat walk_at "rd"
    refine ⟨z, rfl, hz, ?_⟩
    refine ⟨_, rfl, log_small (n := chkN (TL.tl z)) (by omega), ?_⟩
    repeat walk_at "rd"
    refine ⟨_, _, rfl, rfl, ?_, ?_⟩
    · simp only [PySem.Str.length_append, lsp, lf]; rw [lnL]; omega
    repeat walk_at "rd"
    refine ⟨_, _, rfl, rfl, ?_, ?_⟩
    · simp only [PySem.Str.length_append, lsp, lf]; rw [lnL]; omega
    repeat walk_at "rd"
    refine ⟨_, _, rfl, rfl, ?_, ?_⟩
    · simp only [PySem.Str.length_append, lsp, lf]; rw [lnL]; omega
    repeat walk_at "rd"
    refine ⟨_, _, rfl, rfl, ?_, ?_⟩
    · simp only [PySem.Str.length_append, lsp, lf]; rw [lnL]; omega
    repeat walk_at "rd"
    rw [law_row_eq]
    exact q
theorem sc_l_record : FnScope ["_law_pot_here", "_law_signs", "_law_many", "_law_k"] ["_law_pot_here"] (defScope s_l_record) := ⟨rfl, rfl, rfl, by decide +kernel, rfl, by decide +kernel, by decide +kernel⟩
theorem ok_l_record (T : Tx K mg) : FnG P w K mg base CX0 true 3 (He.ga K "_law_record") T.fd_l_record ["_law_pot_here"] (sp_rec K) := by
  refine funG T.F_l_record sc_l_record (fun vs H Q E h => ?_) (fun cdv A outer s H vs Q E hr hg h => ?_)
  · obtain ⟨p, e, _⟩ := h; rw [e]; rfl
  · obtain ⟨p, rfl, hp, q⟩ := h
    refine ⟨_, (pss_cons (ps_set (i := 1) sc_l_record.nd rfl (by first | exact Or.inl rfl | exact Or.inr rfl) pe_str)
    (pss_cons (ps_set (i := 2) sc_l_record.nd rfl (by first | exact Or.inl rfl | exact Or.inr rfl) (pg_call (ok_l_pick T) (hr.mono (by decide)) hg (by rfl) T.g_l_pick T.F_l_pick.kp T.b_l_pick .nil pass0 (pa_cons (pv 0) (pa_cons (pe_lst (pa_cons pe_int (pa_cons pe_int (pa_cons pe_int (pa_cons pe_int (pa_cons pe_int (pa_cons pe_int (pa_cons pe_int (pa_cons pe_int pa_nil))))))))) pa_nil))))
    (pss_one (ps_ret (pe_bm PySem.F.plainAttrs_str PySem.F.slot_str_join PySem.F.type_str_join mt_join pe_str (pa_cons (pe_lc (own := [("_law_k", 3)]) (by rfl) sc_l_record.nd (pi_range1 (by rfl) T.m_range (pa_cons (pv 2) pa_nil)) (blkOk_by (own := [("_law_k", 3)]) (N := ["_law_pot_here", "_law_signs", "_law_many", "_law_k"]) (sc := defScope s_l_record) (by decide +kernel)) (fun _ _ _ _ _ => (pg_name (i := 3) sc_l_record.nd rfl (by first | exact Or.inl rfl | exact Or.inr rfl))) (fun _ _ _ _ _ => pts_nil) (fun _ _ _ _ _ => (pg_call (ok_l_pick T) (hr.mono (by decide)) hg (by rfl) T.g_l_pick T.F_l_pick.kp T.b_l_pick .nil pass0 (pa_cons (pv 0) (pa_cons (pv 1) pa_nil))))) pa_nil)))))), ?_⟩
    walk_at "st"
    repeat walk_at "rd"
    refine r_new (by show 8 ≤ 100000; decide) (fun l1 H1 hl1 s1 e1 _ => ?_)
    repeat walk_at "rd"
    refine use_pickL (hp.same s1) e1 ((hp.neq hl1)) (by simp) (by decide) (fun v H2 hv hp2 k2 => ?_)
    obtain ⟨m, rfl, m0, m1⟩ : ∃ m : Int, v = .int m ∧ 0 ≤ m ∧ m ≤ 40 := by
      simp only [List.mem_cons, List.not_mem_nil, or_false] at hv
      rcases hv with rfl | rfl | rfl | rfl | rfl | rfl | rfl | rfl <;> exact ⟨_, rfl, by decide, by decide⟩
    repeat walk_at "rd"
    refine ⟨by omega, by omega, u_lcR (fun D H0 hD sD eD nD => ?_)⟩
    have nDp : D ≠ p := hp2.neq hD
    refine ⟨fun i H' => ∃ ys : List Str, ys.length = i ∧ H' D = some (.lst (ys.map V.str)) ∧ (∀ x ∈ ys, One x ∧ ∀ c ∈ TL.tl x, c < 128 ∧ c ≠ 10) ∧ PotAt H' p ∧ Fr (Tb K) [D, p] H0 H', ⟨[], rfl, eD, (fun x hx => nomatch hx), hp2.same sD, Fr.refl⟩, ?_, ?_⟩
    · rintro i H3 hi ⟨ys, hl, el, hx, hp3, k3⟩
      repeat walk_at "rd"
      refine ⟨rfl, ?_⟩
      repeat walk_at "rd"
      refine use_pickS hp3 (by decide +kernel) (by decide +kernel) (asc_by (by decide +kernel)).ok8 (fun c H4 hc hp4 k4 => ?_)
      have el4 := k4.at_ el trivial (by simpa using nDp)
      refine g_grow el4 (by rw [List.length_map]; omega) (fun H5 e5 ne5 => ?_)
      refine ⟨ys ++ [⟨#[c]⟩], by rw [List.length_append, hl]; rfl, by rw [e5, List.map_append]; rfl, fun x hx2 => ?_, hp4.off nDp ne5, (k3.trans (k4.mono (by simp))).trans (.set el4 trivial (by simp) ne5)⟩
      rcases List.mem_append.mp hx2 with h | h
      · exact hx x h
      · rw [List.mem_singleton.mp h]
        refine ⟨rfl, fun d hd => ?_⟩
        have hd : d ∈ [c] := hd
        rw [List.mem_singleton.mp hd]
        have z : ∀ c ∈ TL.tl (Str.ofString "abz019 .,-|~'\"AZ/"), c < 128 ∧ c ≠ 10 := by decide +kernel
        exact z c hc
    · rintro H3 ⟨ys, hl, el, hx, hp3, k3⟩
      repeat walk_at "rd"
      have e1 := sum_one (ys := ys) fun x hx2 => (hx x hx2).1
      refine r_join (.inl (.inl el)) ?_ ?_
      · rw [e1]
        have : (Str.ofString "").length = 0 := by decide +kernel
        rw [this]
        omega
      · refine q _ _ ⟨?_, fun c hc => ?_⟩ hp3 (Fr.step ((Fr.same s1).trans k2) hD ((Fr.same sD).trans k3))
        · rw [← TL.len_tl, len_join0 tl_nil, e1]; omega
        · rw [tl_join0 tl_nil] at hc
          obtain ⟨l, hl1, hl2⟩ := List.mem_flatten.mp hc
          obtain ⟨x, hx1, rfl⟩ := List.mem_map.mp hl1
          exact (hx x hx1).2 c hl2

end
def sp_lwhole (K : PySem.W.Frag) : Sp := fun vs H Q _ => ∃ z, vs = [.str z] ∧ Asc z ∧ z.length ≤ 70000 ∧ ∀ p H', H p = none → Same H H' → H' p = some (.lst ((whoL (lnsL (TL.tl z))).map fun l => V.str (mkS l))) → Q (.ref p) H'

section
variable {P : Program} {w : World} {K : PySem.W.Frag} {mg : Str → Option Value} {base : Heap}
theorem sc_l_whole : FnScope ["_law_text", "_law_found", "_law_rest", "_law_line", "_law_words"] ["_law_text"] (defScope s_l_whole) := ⟨rfl, rfl, rfl, by decide +kernel, rfl, by decide +kernel, by decide +kernel⟩
theorem ok_l_whole (T : Tx K mg) : FnG P w K mg base CX0 true 3 (He.ga K "_law_whole") T.fd_l_whole ["_law_text"] (sp_lwhole K) := by
  refine funG T.F_l_whole sc_l_whole (fun vs H Q E h => ?_) (fun cdv A outer s H vs Q E hr hg h => ?_)
  · obtain ⟨z, e, _⟩ := h; rw [e]; rfl
  · obtain ⟨z, rfl, az, lz, q⟩ := h
    refine ⟨_, (pss_cons (ps_par (i := 1) (j := 2) (by rfl) sc_l_whole.nd rfl rfl (by decide) rfl rfl (pa_cons (pe_lst pa_nil) (pa_cons (pv 0) pa_nil)) (by rfl))
    (pss_cons (ps_while PassesOwn.never (pt_cmpR op_in_sign pe_str (pv 2) (by rfl)) (pss_cons (ps_set (i := 3) sc_l_whole.nd rfl (by first | exact Or.inl rfl | exact Or.inr rfl) (pe_slice sl_str (pv 2) po_none (po_some (pe_bm PySem.F.plainAttrs_str PySem.F.slot_str_index PySem.F.type_str_index mt_sindex (pv 2) (pa_cons pe_str pa_nil)))))
    (pss_cons (ps_set (i := 4) sc_l_whole.nd rfl (by first | exact Or.inl rfl | exact Or.inr rfl) (pe_bm PySem.F.plainAttrs_str PySem.F.slot_str_split PySem.F.type_str_split mt_splitMax (pv 3) (pa_cons pe_str (pa_cons pe_int pa_nil))))
    (pss_cons (ps_if (PW.pt (pw_or (pt_cmpR op_lt (pe_callB call_len (by rfl) T.m_len (by decide +kernel) (pa_cons (pv 4) pa_nil)) pe_int (nomark _)) (pw_or1 (pt_cmpR op_ne (pg_call (ok_l_row T) (hr.mono (by decide)) hg (by rfl) T.g_l_row T.F_l_row.kp T.b_l_row .nil pass0 (pa_cons (pe_ix (ix_listK (K' := K)) (pv 4) pe_int (fun _ _ => rfl)) pa_nil)) (pe_op op_add_str (pv 3) pe_str) (nomark _))))) (pss_one (ps_ret (pv 1))) pss_nil)
    (pss_cons (ps_expr (pe_bm PySem.F.plainAttrs_list PySem.F.slot_list_append PySem.F.type_list_append mt_append (pv 1) (pa_cons (pe_ix (ix_listK (K' := K)) (pv 4) pe_int (fun _ _ => rfl)) pa_nil)))
    (pss_one (ps_set (i := 2) sc_l_whole.nd rfl (by first | exact Or.inl rfl | exact Or.inr rfl) (pe_slice sl_str (pv 2) (po_some (pe_op op_add (pe_callB call_len (by rfl) T.m_len (by decide +kernel) (pa_cons (pv 3) pa_nil)) pe_int)) po_none))))))))
    (pss_one (ps_ret (pv 1))))), ?_⟩
    walk_at "st"
    repeat walk_at "rd"
    refine r_new (by show 0 ≤ 100000; decide) (fun p1 H1 hp1 s1 e1 _ => ?_)
    repeat walk_at "rd"
    refine r_while ⟨fun m σ H' => ∃ l : List Nat, ∃ x y, ∃ as : List (List Nat), σ = [some (V.str z), some (V.ref p1), some (V.str (mkS l)), x, y] ∧ Same H H' ∧ H' p1 = some (.lst (as.map fun l => V.str (mkS l))) ∧ whoL (lnsL (TL.tl z)) = as ++ whoL (lnsL l) ∧ l.length + as.length ≤ z.length ∧ (∀ c ∈ l, c < 128) ∧ m = l.length,
      ⟨_, TL.tl z, _, _, [], by rw [mkS_tl], s1, e1, rfl, by rw [TL.len_tl]; exact Nat.le_refl _, az, rfl⟩, ?_⟩
    rintro m σ H2 ⟨l, x, y, as, rfl, s2, e2, w2, l2, a2, rfl⟩
    have lm : (mkS l).length = l.length := TL.len_tl _
    have lm1 : (mkS l).length ≤ 100000 := by omega
    repeat walk_at "rd"
    refine ⟨10, mkS l, rfl, rfl, ?_⟩
    rw [show (mkS l).cps.toList = l from rfl]
    by_cases h : 10 ∈ l
    · rw [decide_eq_true h]
      have lb : (bef 10 l).length + (aft 10 l).length + 1 = l.length := by
        have e := congrArg List.length (cut_at h)
        rw [List.length_append, List.length_cons] at e
        omega
      repeat walk_at "rd"
      refine ⟨fun σ' H' => ∃ m', m' < l.length ∧ ∃ l : List Nat, ∃ x y, ∃ as : List (List Nat), σ' = [some (V.str z), some (V.ref p1), some (V.str (mkS l)), x, y] ∧ Same H H' ∧ H' p1 = some (.lst (as.map fun l => V.str (mkS l))) ∧ whoL (lnsL (TL.tl z)) = as ++ whoL (lnsL l) ∧ l.length + as.length ≤ z.length ∧ (∀ c ∈ l, c < 128) ∧ m' = l.length, fun σ' H' z => z, ?_⟩
      repeat walk_at "rd"
      obtain ⟨rest, ho⟩ := index_bef (x := mkS l) tlf h
      refine ⟨_, _, _, rest, rfl, rfl, ho, ?_⟩
      repeat walk_at "rd"
      refine r_cutS lm1 ?_
      have eb : cutS (mkS l) none (some (((bef 10 (TL.tl (mkS l))).length : Nat) : Int)) = mkS (bef 10 l) := TL.ext_tl (by rw [tl_mkS, tl_to _ (by omega), tl_mkS, tl_mkS, take_bef h])
      rw [eb]
      repeat walk_at "rd"
      have lmb : (mkS (bef 10 l)).length = (bef 10 l).length := TL.len_tl _
      have lmb1 : (mkS (bef 10 l)).length ≤ 100000 := by omega
      refine ⟨_, _, 2, rfl, rfl, by rw [lsp]; rfl, by decide, by decide, by rw [lnL]; omega, r_strs (fun p3 H3 hp3 s3 e3 _ => ?_)⟩
      repeat walk_at "rd"
      rw [who_cons h] at w2
      rcases split_two (x := mkS (bef 10 l)) tsp (by decide) with ⟨l3, no⟩ | ⟨a, b, es, y1, y2⟩
      · rw [if_neg (show ¬ okL (bef 10 l) = true from fun ok => no (two_spaces ok)), List.append_nil] at w2
        rw [List.length_map, decide_eq_true (by omega)]
        repeat walk_at "rd"
        refine q p1 H3 hp1 (s2.trans s3) ?_
        rw [w2]
        exact s3 _ _ e2
      · rw [es] at e3 ⊢
        have e3 : H3 p3 = some (.lst [.str a, .str b, .str (mkS (recL (bef 10 l)))]) := e3
        rw [decide_eq_false (by simp)]
        repeat walk_at "rd"
        have lr := rec_len (bef 10 l)
        refine ⟨_, rfl, fun c hc => a2 c (bef_mem (rec_mem hc)), by rw [TL.len_tl, tl_mkS]; omega, ?_⟩
        repeat walk_at "rd"
        refine ⟨_, _, rfl, rfl, by rw [lf, lnL]; omega, ?_⟩
        rw [show mkS (bef 10 l) ++ Str.ofString "\n" = mkS (bef 10 l ++ [10]) from TL.ext_tl (by simp only [TL.tl_append, tlf, tl_mkS])]
        repeat walk_at "rd"
        by_cases ok : okL (bef 10 l) = true
        · rw [if_pos ok] at w2
          rw [decide_eq_true (show rowS (mkS (recL (bef 10 l))) = mkS (bef 10 l ++ [10]) from tl_inj2.mpr (of_decide_eq_true ok))]
          have e23 := s3 _ _ e2
          repeat walk_at "rd"
          refine q_grown e23 (by rw [List.length_map]; omega) (fun H4 e4 ne4 => ?_)
          repeat walk_at "rd"
          refine r_cutS lm1 ?_
          have ec : cutS (mkS l) (some (((mkS (bef 10 l)).length : Nat) + 1 : Int)) none = mkS (aft 10 l) := TL.ext_tl (by
            rw [show (((mkS (bef 10 l)).length : Nat) + 1 : Int) = (((bef 10 l).length + 1 : Nat) : Int) from by omega, tl_from, tl_mkS, tl_mkS, drop_bef h])
          rw [ec]
          repeat walk_at "rd"
          exact ⟨_, aft_lt h, aft 10 l, _, _, as ++ [recL (bef 10 l)], rfl, same_put (s2.trans s3) hp1 ne4, by rw [e4, List.map_append]; rfl, by rw [w2, List.append_assoc]; rfl, by rw [List.length_append]; show _ + (_ + 1) ≤ _; omega, fun c hc => a2 c (aft_mem hc), rfl⟩
        · rw [if_neg ok, List.append_nil] at w2
          rw [decide_eq_false (show ¬ rowS (mkS (recL (bef 10 l))) = mkS (bef 10 l ++ [10]) from fun e => ok (decide_eq_true (tl_inj2.mp e)))]
          repeat walk_at "rd"
          refine q p1 H3 hp1 (s2.trans s3) ?_
          rw [w2]
          exact s3 _ _ e2
    · rw [decide_eq_false h]
      rw [lns_nil h, show whoL [] = [] from rfl, List.append_nil] at w2
      repeat walk_at "rd"
      refine q p1 H2 hp1 s2 ?_
      rw [w2]
      exact e2

end
/-- a pair of short texts -/
def TwoS (H : Hp) (v : V) : Prop := ∃ t a b, v = .ref t ∧ H t = some (.tup [.str a, .str b]) ∧ Asc a ∧ Asc b ∧ a.length ≤ 6000 ∧ b.length ≤ 6000
theorem TwoS.same {H H' : Hp} {v : V} (h : TwoS H v) (s : Same H H') : TwoS H' v := let ⟨t, a, b, e, z, y⟩ := h; ⟨t, a, b, e, s _ _ z, y⟩
def sp_odd (K : PySem.W.Frag) : Sp := fun vs H Q _ => ∃ p z, vs = [.ref p, .str z] ∧ PotAt H p ∧ RecL (TL.tl z) ∧ ∀ y H', Asc y → y.length ≤ 13000 → PotAt H' p → Fr (Tb K) [p] H H' → Q (.str y) H'
theorem asc_num (n : Nat) : Asc (Str.ofString (toString ((n : Nat) : Int))) := fun c hc => by
  rw [tl_toS] at hc
  have := TL.numL_digits n c hc
  omega
theorem l0c : (Str.ofString "0").length = 1 := by decide +kernel
theorem lpl : (Str.ofString "+").length = 1 := by decide +kernel
theorem ldt : (Str.ofString ".").length = 1 := by decide +kernel
local macro_rules
  | `(tactic| walk_at "sadd") => `(tactic| (refine ⟨_, _, rfl, rfl, ?_, ?_⟩; · (simp only [PySem.Str.length_append, lsp, lf, l0c, lpl, ldt]; rw [lnL]; omega)))
theorem r_cat {H : Hp} {Q : VK} {a b : Addr} {xs ys : List V} (ha : H a = some (.lst xs)) (hb : H b = some (.lst ys)) (hz : xs.length + ys.length ≤ 100000) (q : ∀ p H', H p = none → Same H H' → H' p = some (.lst (xs ++ ys)) → (∀ c, c ≠ p → H' c = H c) → Q (.ref p) H') : rCat (.ref a) (.ref b) H Q :=
  ⟨a, b, xs, ys, rfl, rfl, ha, hb, Nat.le_trans hz (by decide), fun p hp => q p _ hp (same_upd hp) upd_same fun c hc => upd_ne hc⟩
theorem asc_rep {z : Str} (h : Asc z) (k : Nat) : Asc (repS z k) := fun c hc => by
  rw [tl_rep] at hc
  obtain ⟨l, hl, hm⟩ := List.mem_flatten.mp hc
  rw [List.eq_of_mem_replicate hl] at hm
  exact h c hm
theorem TwoS.fr {K : PySem.W.Frag} {H H' : Hp} {p : Addr} {v : V} (h : TwoS H v) (hp : PotAt H p) (f : LL.Fr (Tb K) [p] H H') : TwoS H' v := by
  obtain ⟨t, a, b, e, z, y⟩ := h
  refine ⟨t, a, b, e, f.at_ z trivial ?_, y⟩
  obtain ⟨c0, c1, ep, _⟩ := hp
  have : t ≠ p := by
    rintro rfl
    rw [z] at ep
    cases ep
  simpa using this
theorem twoS {H : Hp} {t : Addr} {a b : Str} (e : H t = some (.tup [.str a, .str b])) (x : Asc a) (y : Asc b) (la : a.length ≤ 6000) (lb : b.length ≤ 6000) : TwoS H (.ref t) := ⟨t, a, b, rfl, e, x, y, la, lb⟩

section
variable {P : Program} {w : World} {K : PySem.W.Frag} {mg : Str → Option Value} {base : Heap}
theorem sc_l_odd_row : FnScope ["_law_pot_here", "_law_record_here", "_law_size", "_law_check_here", "_law_some", "_law_length", "_law_sum_text"] ["_law_pot_here", "_law_record_here"] (defScope s_l_odd_row) := ⟨rfl, rfl, rfl, by decide +kernel, rfl, by decide +kernel, by decide +kernel⟩
theorem ok_l_odd_row (T : Tx K mg) : FnG P w K mg base CX0 true 3 (He.ga K "_law_odd_row") T.fd_l_odd_row ["_law_pot_here", "_law_record_here"] (sp_odd K) := by
  refine funG T.F_l_odd_row sc_l_odd_row (fun vs H Q E h => ?_) (fun cdv A outer s H vs Q E hr hg h => ?_)
  · obtain ⟨p, z, e, _⟩ := h; rw [e]; rfl
  · obtain ⟨p, z, rfl, hp, ⟨hz, az⟩, q⟩ := h
    refine ⟨_, (pss_cons (ps_par (i := 2) (j := 3) (by rfl) sc_l_odd_row.nd rfl rfl (by decide) rfl rfl (pa_cons (pe_callTy call_str_int (by rfl) T.m_str (by decide +kernel) (pa_cons (pe_callB call_len (by rfl) T.m_len (by decide +kernel) (pa_cons (pv 1) pa_nil)) pa_nil)) (pa_cons (pe_callTy call_str_int (by rfl) T.m_str (by decide +kernel) (pa_cons (pg_call (ok_l_check T) (hr.mono (by decide)) hg (by rfl) T.g_l_check T.F_l_check.kp T.b_l_check .nil pass0 (pa_cons (pv 1) pa_nil)) pa_nil)) pa_nil)) (by rfl))
    (pss_cons (ps_set (i := 4) sc_l_odd_row.nd rfl (by first | exact Or.inl rfl | exact Or.inr rfl) (pe_lst (pa_cons (pe_tup (pa_cons (pe_op op_add_str pe_str (pv 2)) (pa_cons (pv 3) pa_nil))) (pa_cons (pe_tup (pa_cons (pv 2) (pa_cons (pe_op op_add_str pe_str (pv 3)) pa_nil))) (pa_cons (pe_tup (pa_cons (pe_callTy call_str_int (by rfl) T.m_str (by decide +kernel) (pa_cons (pe_op op_add (pe_callB call_len (by rfl) T.m_len (by decide +kernel) (pa_cons (pv 1) pa_nil)) pe_int) pa_nil)) (pa_cons (pv 3) pa_nil))) (pa_cons (pe_tup (pa_cons (pe_op op_mul_str pe_str pe_int) (pa_cons (pv 3) pa_nil))) pa_nil))))))
    (pss_cons (ps_set (i := 4) sc_l_odd_row.nd rfl (by first | exact Or.inl rfl | exact Or.inr rfl) (pe_op op_cat (pv 4) (pe_lst (pa_cons (pe_tup (pa_cons (pv 2) (pa_cons (pe_callTy call_str_int (by rfl) T.m_str (by decide +kernel) (pa_cons (pe_op op_add (pg_call (ok_l_check T) (hr.mono (by decide)) hg (by rfl) T.g_l_check T.F_l_check.kp T.b_l_check .nil pass0 (pa_cons (pv 1) pa_nil)) pe_int) pa_nil)) pa_nil))) (pa_cons (pe_tup (pa_cons (pe_op op_add_str pe_str (pv 2)) (pa_cons (pv 3) pa_nil))) (pa_cons (pe_tup (pa_cons (pv 2) (pa_cons (pe_op op_mul_str pe_str pe_int) pa_nil))) (pa_cons (pe_tup (pa_cons (pe_op op_add_str pe_str (pv 2)) (pa_cons (pv 3) pa_nil))) pa_nil)))))))
    (pss_cons (ps_asg (pg_call (ok_l_pick T) (hr.mono (by decide)) hg (by rfl) T.g_l_pick T.F_l_pick.kp T.b_l_pick .nil pass0 (pa_cons (pv 0) (pa_cons (pe_op op_cat (pv 4) (pe_lst (pa_cons (pe_tup (pa_cons (pe_op op_add_str (pv 2) pe_str) (pa_cons (pv 3) pa_nil))) (pa_cons (pe_tup (pa_cons pe_str (pa_cons (pv 3) pa_nil))) (pa_cons (pe_tup (pa_cons (pv 2) (pa_cons pe_str pa_nil))) (pa_cons (pe_tup (pa_cons (pv 2) (pa_cons (pe_op op_add_str (pv 3) pe_str) pa_nil))) pa_nil)))))) pa_nil))) (pg_tupK (K' := K) (n := 2) (by rfl) (pgs_cons (pg_name (i := 5) sc_l_odd_row.nd rfl (by first | exact Or.inl rfl | exact Or.inr rfl)) (pgs_cons (pg_name (i := 6) sc_l_odd_row.nd rfl (by first | exact Or.inl rfl | exact Or.inr rfl)) pgs_nil))))
    (pss_one (ps_ret (pe_op op_add_str (pe_op op_add_str (pe_op op_add_str (pe_op op_add_str (pe_op op_add_str (pv 5) pe_str) (pv 6)) pe_str) (pv 1)) pe_str))))))), ?_⟩
    walk_at "st"
    have lz : z.length ≤ 40 := by rw [TL.len_tl]; exact hz
    have lz1 : z.length ≤ 100000 := by omega
    have az1 : Asc z := fun c hc => (az c hc).1
    have c0 := chk_lt (TL.tl z)
    have y1 := int_text_len_1921 (log_small (n := z.length) (by omega))
    have y2 := int_text_len_1921 (log_small (n := chkN (TL.tl z)) (by omega))
    repeat walk_at "rd"
    refine ⟨log_small (n := z.length) (by omega), ?_⟩
    repeat walk_at "rd"
    refine ⟨z, rfl, az1, ?_⟩
    refine ⟨_, rfl, log_small (n := chkN (TL.tl z)) (by omega), ?_⟩
    have au := asc_num z.length
    have av := asc_num (chkN (TL.tl z))
    revert y1 y2 au av
    generalize Str.ofString (toString ((z.length : Nat) : Int)) = u
    generalize Str.ofString (toString ((chkN (TL.tl z) : Nat) : Int)) = v
    intro y1 y2 au av
    repeat walk_at "rd"
    walk_at "sadd"
    repeat walk_at "rd"
    refine r_new (by show 2 ≤ 100000; decide) (fun t1 H1 ht1 s1 e1 _ => ?_)
    repeat walk_at "rd"
    walk_at "sadd"
    repeat walk_at "rd"
    refine r_new (by show 2 ≤ 100000; decide) (fun t2 H2 ht2 s2 e2 _ => ?_)
    repeat walk_at "rd"
    have y3 := int_text_len_1921 (log_small (n := (z.length : Int) + 1) (by omega))
    have a3 := asc_num (z.length + 1)
    have a3 : Asc (Str.ofString (toString ((z.length : Int) + 1))) := a3
    refine ⟨log_small (n := (z.length : Int) + 1) (by omega), ?_⟩
    revert y3 a3
    generalize Str.ofString (toString ((z.length : Int) + 1)) = w3
    intro y3 a3
    repeat walk_at "rd"
    refine r_new (by show 2 ≤ 100000; decide) (fun t3 H3 ht3 s3 e3 _ => ?_)
    repeat walk_at "rd"
    refine ⟨_, 5000, rfl, rfl, by decide, by decide, by decide +kernel, by decide +kernel, ?_⟩
    have y4 : (repS (Str.ofString "9") (5000 : Int).toNat).length ≤ 5000 := by rw [len_rep]; decide +kernel
    have a4 : Asc (repS (Str.ofString "9") (5000 : Int).toNat) := asc_rep (asc_by (by decide +kernel)) _
    revert y4 a4
    generalize repS (Str.ofString "9") (5000 : Int).toNat = w4
    intro y4 a4
    repeat walk_at "rd"
    refine r_new (by show 2 ≤ 100000; decide) (fun t4 H4 ht4 s4 e4 _ => ?_)
    repeat walk_at "rd"
    refine r_new (by show 4 ≤ 100000; decide) (fun t5 H5 ht5 s5 e5 _ => ?_)
    repeat walk_at "rd"
    refine ⟨z, rfl, az1, ?_⟩
    repeat walk_at "rd"
    have y5 := int_text_len_1921 (log_small (n := ((chkN (TL.tl z) : Nat) : Int) + 1) (by omega))
    have a5 : Asc (Str.ofString (toString (((chkN (TL.tl z) : Nat) : Int) + 1))) := asc_num (chkN (TL.tl z) + 1)
    refine ⟨log_small (n := ((chkN (TL.tl z) : Nat) : Int) + 1) (by omega), ?_⟩
    revert y5 a5
    generalize Str.ofString (toString (((chkN (TL.tl z) : Nat) : Int) + 1)) = w5
    intro y5 a5
    repeat walk_at "rd"
    refine r_new (by show 2 ≤ 100000; decide) (fun t6 H6 ht6 s6 e6 _ => ?_)
    repeat walk_at "rd"
    walk_at "sadd"
    repeat walk_at "rd"
    refine r_new (by show 2 ≤ 100000; decide) (fun t7 H7 ht7 s7 e7 _ => ?_)
    repeat walk_at "rd"
    refine ⟨_, 4500, rfl, rfl, by decide, by decide, by decide +kernel, by decide +kernel, ?_⟩
    have y6 : (repS (Str.ofString "7") (4500 : Int).toNat).length ≤ 5000 := by rw [len_rep]; decide +kernel
    have a6 : Asc (repS (Str.ofString "7") (4500 : Int).toNat) := asc_rep (asc_by (by decide +kernel)) _
    revert y6 a6
    generalize repS (Str.ofString "7") (4500 : Int).toNat = w6
    intro y6 a6
    repeat walk_at "rd"
    refine r_new (by show 2 ≤ 100000; decide) (fun t8 H8 ht8 s8 e8 _ => ?_)
    repeat walk_at "rd"
    walk_at "sadd"
    repeat walk_at "rd"
    refine r_new (by show 2 ≤ 100000; decide) (fun t9 H9 ht9 s9 e9 _ => ?_)
    repeat walk_at "rd"
    refine r_new (by show 4 ≤ 100000; decide) (fun t10 H10 ht10 s10 e10 _ => ?_)
    repeat walk_at "rd"
    refine r_cat (((((s6.trans s7).trans s8).trans s9).trans s10) _ _ e5) e10 (by simp) (fun t11 H11 ht11 s11 e11 _ => ?_)
    repeat walk_at "rd"
    walk_at "sadd"
    repeat walk_at "rd"
    refine r_new (by show 2 ≤ 100000; decide) (fun t12 H12 ht12 s12 e12 _ => ?_)
    repeat walk_at "rd"
    refine r_new (by show 2 ≤ 100000; decide) (fun t13 H13 ht13 s13 e13 _ => ?_)
    repeat walk_at "rd"
    refine r_new (by show 2 ≤ 100000; decide) (fun t14 H14 ht14 s14 e14 _ => ?_)
    repeat walk_at "rd"
    walk_at "sadd"
    repeat walk_at "rd"
    refine r_new (by show 2 ≤ 100000; decide) (fun t15 H15 ht15 s15 e15 _ => ?_)
    repeat walk_at "rd"
    refine r_new (by show 4 ≤ 100000; decide) (fun t16 H16 ht16 s16 e16 _ => ?_)
    repeat walk_at "rd"
    refine r_cat (((((s12.trans s13).trans s14).trans s15).trans s16) _ _ e11) e16 (by simp) (fun t17 H17 ht17 s17 e17 _ => ?_)
    repeat walk_at "rd"
    have u17 : Same H17 H17 := fun _ _ e => e
    have u16 := s17.trans u17
    have u15 := s16.trans u16
    have u14 := s15.trans u15
    have u13 := s14.trans u14
    have u12 := s13.trans u13
    have u11 := s12.trans u12
    have u10 := s11.trans u11
    have u9 := s10.trans u10
    have u8 := s9.trans u9
    have u7 := s8.trans u8
    have u6 := s7.trans u7
    have u5 := s6.trans u6
    have u4 := s5.trans u5
    have u3 := s4.trans u4
    have u2 := s3.trans u3
    have u1 := s2.trans u2
    have sA := s1.trans u1
    have hp16 : PotAt H16 p := hp.same (((((((((((((((s1.trans s2).trans s3).trans s4).trans s5).trans s6).trans s7).trans s8).trans s9).trans s10).trans s11).trans s12).trans s13).trans s14).trans s15).trans s16)
    have q0 : Asc (Str.ofString "0") := asc_by (by decide +kernel)
    have qp : Asc (Str.ofString "+") := asc_by (by decide +kernel)
    have qs : Asc (Str.ofString " ") := asc_by (by decide +kernel)
    have qd : Asc (Str.ofString ".") := asc_by (by decide +kernel)
    have qf : Asc (Str.ofString "\n") := asc_by (by decide +kernel)
    have qe : Asc (Str.ofString "") := asc_by (by decide +kernel)
    have le : (Str.ofString "").length = 0 := by decide +kernel
    refine use_pickL (hp.same sA) e17 (hp16.neq ht17) (by simp) (by simp) (fun v1 H18 hv hp18 k18 => ?_)
    have two : TwoS H17 v1 := by
      simp only [List.mem_append, List.mem_cons, List.not_mem_nil, or_false] at hv
      rcases hv with ((rfl | rfl | rfl | rfl) | rfl | rfl | rfl | rfl) | rfl | rfl | rfl | rfl
      · exact twoS (u1 _ _ e1) (q0.app au) av (by rw [PySem.Str.length_append, l0c]; omega) (by omega)
      · exact twoS (u2 _ _ e2) au (q0.app av) (by omega) (by rw [PySem.Str.length_append, l0c]; omega)
      · exact twoS (u3 _ _ e3) a3 av (by omega) (by omega)
      · exact twoS (u4 _ _ e4) a4 av (by omega) (by omega)
      · exact twoS (u6 _ _ e6) au a5 (by omega) (by omega)
      · exact twoS (u7 _ _ e7) (qp.app au) av (by rw [PySem.Str.length_append, lpl]; omega) (by omega)
      · exact twoS (u8 _ _ e8) au a6 (by omega) (by omega)
      · exact twoS (u9 _ _ e9) (qs.app au) av (by rw [PySem.Str.length_append, lsp]; omega) (by omega)
      · exact twoS (u12 _ _ e12) (au.app qs) av (by rw [PySem.Str.length_append, lsp]; omega) (by omega)
      · exact twoS (u13 _ _ e13) qe av (by omega) (by omega)
      · exact twoS (u14 _ _ e14) au qe (by omega) (by omega)
      · exact twoS (u15 _ _ e15) au (av.app qd) (by omega) (by rw [PySem.Str.length_append, ldt]; omega)
    obtain ⟨t19, a, b, rfl, e19, aa, ab, la, lb⟩ := two.fr (hp.same sA) k18
    refine r_gtup (.inl (.inl e19)) (by rfl) ?_
    repeat walk_at "rd"
    walk_at "sadd"
    repeat walk_at "rd"
    walk_at "sadd"
    repeat walk_at "rd"
    walk_at "sadd"
    repeat walk_at "rd"
    walk_at "sadd"
    repeat walk_at "rd"
    walk_at "sadd"
    repeat walk_at "rd"
    refine q _ _ ((((aa.app qs).app ab).app qs).app az1 |>.app qf) ?_ hp18 ((LL.Fr.same sA).trans k18)
    simp only [PySem.Str.length_append, lsp, lf]
    omega

end
/-- short plain texts -/
def Shorts (rs : List Str) : Prop := ∀ r ∈ rs, Asc r ∧ r.length ≤ 60
def sp_spoilt (K : PySem.W.Frag) : Sp := fun vs H Q _ => ∃ p R rs, vs = [.ref p, .ref R] ∧ PotAt H p ∧ H R = some (.lst (rs.map V.str)) ∧ R ≠ p ∧ rs.length ≤ 10 ∧ Shorts rs ∧ ∀ y H', Asc y → y.length ≤ 70000 → PotAt H' p → Fr (Tb K) [p] H H' → Q (.str y) H'
theorem sum_short : ∀ {rs : List Str}, Shorts rs → (rs.map (·.length)).sum ≤ 60 * rs.length
  | [], _ => by simp
  | r :: rs, h => by
    have := sum_short (rs := rs) fun x hx => h x (List.mem_cons_of_mem _ hx)
    have := (h r (List.mem_cons_self ..)).2
    rw [List.map_cons, List.sum_cons, List.length_cons]
    omega
theorem le0 : (Str.ofString "").length = 0 := by decide +kernel
local macro_rules
  | `(tactic| walk_at "sadx") => `(tactic| (refine ⟨_, _, rfl, rfl, ?_, ?_⟩; · ((try simp only [PySem.Str.length_append]); rw [lnL]; omega)))
theorem Shorts.join {rs : List Str} (h : Shorts rs) : Asc (Txt.join (Str.ofString "") rs) := asc_join0 tl_nil fun x hx => (h x hx).1
theorem Shorts.len {rs : List Str} (h : Shorts rs) : (Txt.join (Str.ofString "") rs).length ≤ 60 * rs.length := by rw [len_join0 tl_nil]; exact sum_short h
theorem r_rep2 {H : Hp} {Q : VK} {a : Addr} {xs : List V} (ha : H a = some (.lst xs)) (hz : xs.length ≤ 100000) (q : ∀ p H', H p = none → Same H H' → H' p = some (.lst (xs ++ xs)) → (∀ c, c ≠ p → H' c = H c) → Q (.ref p) H') : rRep (.ref a) (.int 2) H Q :=
  ⟨a, 2, xs, rfl, rfl, ha, by decide, by decide, by show xs.length * 2 ≤ _; rw [lnL]; omega, fun p hp => q p _ hp (same_upd hp) (by
    rw [upd_same]
    show some (HO.lst (List.replicate 2 xs).flatten) = _
    simp [List.replicate]) fun c hc => upd_ne hc⟩

section
variable {P : Program} {w : World} {K : PySem.W.Frag} {mg : Str → Option Value} {base : Heap}
theorem sc_l_spoilt : FnScope ["_law_pot_here", "_law_rows", "_law_text", "_law_way", "_law_at", "_law_sign", "_law_ahead", "_law_behind", "_law_place"] ["_law_pot_here", "_law_rows"] (defScope s_l_spoilt) := ⟨rfl, rfl, rfl, by decide +kernel, rfl, by decide +kernel, by decide +kernel⟩
theorem ok_l_spoilt (T : Tx K mg) : FnG P w K mg base CX0 true 4 (He.ga K "_law_spoilt") T.fd_l_spoilt ["_law_pot_here", "_law_rows"] (sp_spoilt K) := by
  refine funG T.F_l_spoilt sc_l_spoilt (fun vs H Q E h => ?_) (fun cdv A outer s H vs Q E hr hg h => ?_)
  · obtain ⟨p, R, rs, e, _⟩ := h; rw [e]; rfl
  · obtain ⟨p, R, rs, rfl, hp, hR, nR, lr, hs, q⟩ := h
    refine ⟨_, (pss_cons (ps_par (i := 2) (j := 3) (by rfl) sc_l_spoilt.nd rfl rfl (by decide) rfl rfl (pa_cons (pe_bm PySem.F.plainAttrs_str PySem.F.slot_str_join PySem.F.type_str_join mt_join pe_str (pa_cons (pv 1) pa_nil)) (pa_cons (pg_call (ok_l_take T) (hr.mono (by decide)) hg (by rfl) T.g_l_take T.F_l_take.kp T.b_l_take .nil pass0 (pa_cons (pv 0) (pa_cons pe_int pa_nil))) pa_nil)) (by rfl))
    (pss_cons (ps_par (i := 4) (j := 5) (by rfl) sc_l_spoilt.nd rfl rfl (by decide) rfl rfl (pa_cons (pg_call (ok_l_take T) (hr.mono (by decide)) hg (by rfl) T.g_l_take T.F_l_take.kp T.b_l_take .nil pass0 (pa_cons (pv 0) (pa_cons (pe_op op_add (pe_callB call_len (by rfl) T.m_len (by decide +kernel) (pa_cons (pv 2) pa_nil)) pe_int) pa_nil))) (pa_cons (pg_call (ok_l_pick T) (hr.mono (by decide)) hg (by rfl) T.g_l_pick T.F_l_pick.kp T.b_l_pick .nil pass0 (pa_cons (pv 0) (pa_cons pe_str pa_nil))) pa_nil)) (by rfl))
    (pss_cons (ps_if (pt_cmpR op_lt (pv 3) pe_int (nomark _)) (pss_cons (ps_par (i := 6) (j := 7) (by rfl) sc_l_spoilt.nd rfl rfl (by decide) rfl rfl (pa_cons (pe_slice sl_str (pv 2) po_none (po_some (pv 4))) (pa_cons (pe_slice sl_str (pv 2) (po_some (pv 4)) po_none) pa_nil)) (by rfl))
    (pss_one (ps_ret (pe_ix (ix_listK (K' := K)) (pe_lst (pa_cons (pv 6) (pa_cons (pe_op op_add_str (pe_op op_add_str (pv 6) (pv 5)) (pv 7)) (pa_cons (pe_op op_add_str (pv 6) (pe_slice sl_str (pv 7) (po_some pe_int) po_none)) (pa_cons (pe_op op_add_str (pe_op op_add_str (pv 6) (pv 5)) (pe_slice sl_str (pv 7) (po_some pe_int) po_none)) pa_nil))))) (pv 3) (fun _ _ => rfl))))) pss_nil)
    (pss_cons (ps_set (i := 8) sc_l_spoilt.nd rfl (by first | exact Or.inl rfl | exact Or.inr rfl) (pg_call (ok_l_take T) (hr.mono (by decide)) hg (by rfl) T.g_l_take T.F_l_take.kp T.b_l_take .nil pass0 (pa_cons (pv 0) (pa_cons (pe_op op_add (pe_callB call_len (by rfl) T.m_len (by decide +kernel) (pa_cons (pv 1) pa_nil)) pe_int) pa_nil))))
    (pss_cons (ps_if (pt_cmpR op_eq (pv 3) pe_int (nomark _)) (pss_one (ps_ret (pe_bm PySem.F.plainAttrs_str PySem.F.slot_str_join PySem.F.type_str_join mt_join pe_str (pa_cons (pe_op op_cat (pe_op op_cat (pe_slice sl_list (pv 1) po_none (po_some (pv 8))) (pe_lst (pa_cons (pg_call (ok_l_odd_row T) (hr.mono (by decide)) hg (by rfl) T.g_l_odd_row T.F_l_odd_row.kp T.b_l_odd_row .nil pass0 (pa_cons (pv 0) (pa_cons (pg_call (ok_l_record T) (hr.mono (by decide)) hg (by rfl) T.g_l_record T.F_l_record.kp T.b_l_record .nil pass0 (pa_cons (pv 0) pa_nil)) pa_nil))) pa_nil))) (pe_slice sl_list (pv 1) (po_some (pv 8)) po_none)) pa_nil)))) pss_nil)
    (pss_cons (ps_if (pt_cmpR op_eq (pv 3) pe_int (nomark _)) (pss_one (ps_ret (pe_bm PySem.F.plainAttrs_str PySem.F.slot_str_join PySem.F.type_str_join mt_join pe_str (pa_cons (pe_op op_cat (pe_slice sl_list (pv 1) po_none (po_some (pv 8))) (pe_slice sl_list (pv 1) (po_some (pe_op op_add (pv 8) pe_int)) po_none)) pa_nil)))) pss_nil)
    (pss_one (ps_ret (pe_bm PySem.F.plainAttrs_str PySem.F.slot_str_join PySem.F.type_str_join mt_join pe_str (pa_cons (pe_op op_cat (pe_op op_cat (pe_slice sl_list (pv 1) po_none (po_some (pv 8))) (pe_op op_rep (pe_slice sl_list (pv 1) (po_some (pv 8)) (po_some (pe_op op_add (pv 8) pe_int))) pe_int)) (pe_slice sl_list (pv 1) (po_some (pe_op op_add (pv 8) pe_int)) po_none)) pa_nil)))))))))), ?_⟩
    walk_at "st"
    repeat walk_at "rd"
    have ls := sum_short hs
    refine ⟨_, R, rs, rfl, rfl, .inl (.inl (.inl hR)), by rw [le0]; omega, ?_⟩
    have lt : (Txt.join (Str.ofString "") rs).length ≤ 2000 := by rw [len_join0 tl_nil]; omega
    have lt1 : (Txt.join (Str.ofString "") rs).length ≤ 100000 := by omega
    have at0 : Asc (Txt.join (Str.ofString "") rs) := asc_join0 tl_nil fun x hx => (hs x hx).1
    repeat walk_at "rd"
    refine use_take hp (by omega) (by omega) (fun way H1 w0 w1 hp1 k1 => ?_)
    repeat walk_at "rd"
    refine use_take hp1 (by omega) (by omega) (fun at_ H2 a0 a1 hp2 k2 => ?_)
    repeat walk_at "rd"
    refine use_pickS hp2 (by decide +kernel) (by decide +kernel) (asc_by (by decide +kernel)).ok8 (fun c H3 hc hp3 k3 => ?_)
    have ac : Asc ⟨#[c]⟩ := asc_one ((asc_by (by decide +kernel) : Asc (Str.ofString " \n0129abz.-")) c hc)
    have k13 := (k1.trans k2).trans k3
    have hR3 := k13.at_ hR trivial (by simpa using nR)
    repeat walk_at "rd"
    refine r_dec (fun e => ?_) (fun e => ?_)
    · have y1 := len_cut (Txt.join (Str.ofString "") rs) none (some at_)
      have y2 := len_cut (Txt.join (Str.ofString "") rs) (some at_) none
      have b1 := asc_cut at0 none (some at_)
      have b2 := asc_cut at0 (some at_) none
      repeat walk_at "rd"
      refine r_cutS lt1 ?_
      repeat walk_at "rd"
      refine r_cutS lt1 ?_
      revert y1 y2 b1 b2
      generalize cutS (Txt.join (Str.ofString "") rs) none (some at_) = ah
      generalize cutS (Txt.join (Str.ofString "") rs) (some at_) none = be
      intro y1 y2 b1 b2
      have y3 := len_cut be (some 1) none
      have b3 := asc_cut b2 (some 1) none
      have lc : (⟨#[c]⟩ : Str).length = 1 := rfl
      repeat walk_at "rd"
      refine ⟨_, _, rfl, rfl, by rw [lc, lnL]; omega, ?_⟩
      repeat walk_at "rd"
      walk_at "sadx"
      repeat walk_at "rd"
      refine r_cutS (by omega) ?_
      repeat walk_at "rd"
      walk_at "sadx"
      repeat walk_at "rd"
      walk_at "sadx"
      repeat walk_at "rd"
      refine r_cutS (by omega) ?_
      repeat walk_at "rd"
      walk_at "sadx"
      repeat walk_at "rd"
      refine r_new (by show 4 ≤ 100000; decide) (fun l4 H4 hl4 s4 e4 _ => ?_)
      repeat walk_at "rd"
      obtain ⟨j, rfl⟩ := Int.eq_ofNat_of_zero_le w0
      have k14 := k13.trans (.same s4)
      have hp4 := hp3.same s4
      obtain rfl | rfl | rfl | rfl : j = 0 ∨ j = 1 ∨ j = 2 ∨ j = 3 := by omega
      · refine r_ixL (.inl (.inl e4)) (atI_nat (by rfl)) (q _ _ b1 (by omega) hp4 k14)
      · refine r_ixL (.inl (.inl e4)) (atI_nat (by rfl)) (q _ _ ((b1.app ac).app b2) (by simp only [PySem.Str.length_append]; omega) hp4 k14)
      · refine r_ixL (.inl (.inl e4)) (atI_nat (by rfl)) (q _ _ (b1.app b3) (by simp only [PySem.Str.length_append]; omega) hp4 k14)
      · refine r_ixL (.inl (.inl e4)) (atI_nat (by rfl)) (q _ _ ((b1.app ac).app b3) (by simp only [PySem.Str.length_append]; omega) hp4 k14)
    · repeat walk_at "rd"
      refine use_take hp3 (by rw [List.length_map]; omega) (by rw [List.length_map]; omega) (fun pl H4 p0 p1 hp4 k4 => ?_)
      repeat walk_at "rd"
      have k14 := k13.trans k4
      have hR4 := k4.at_ hR3 trivial (by simpa using nR)
      refine r_dec (fun e4 => ?_) (fun e4 => ?_)
      · repeat walk_at "rd"
        refine r_slL (.inl (.inl hR4)) (fun p5 H5 hp5 s5 e5 _ => ?_)
        obtain ⟨r5, c5, l5, m5⟩ := cut_strs rs none (some pl)
        rw [c5] at e5
        repeat walk_at "rd"
        have hp5' := hp4.same s5
        have n5 := hp4.neq hp5
        refine ⟨p, rfl, hp5', fun z H6 rz hp6 k6 => ?_⟩
        refine ⟨p, z, rfl, hp6, rz, fun y H7 ay ly hp7 k7 => ?_⟩
        have k67 := k6.trans k7
        have e7 := k67.at_ e5 trivial (by simpa using n5)
        have hR7 := k67.at_ (s5 _ _ hR4) trivial (by simpa using nR)
        repeat walk_at "rd"
        refine r_new (by show 1 ≤ 100000; decide) (fun l8 H8 hl8 s8 e8 _ => ?_)
        repeat walk_at "rd"
        refine r_cat (s8 _ _ e7) e8 (by rw [List.length_map]; show _ + 1 ≤ _; omega) (fun l9 H9 hl9 s9 e9 _ => ?_)
        repeat walk_at "rd"
        refine r_slL (.inl (.inl ((s8.trans s9) _ _ hR7))) (fun p10 H10 hp10 s10 e10 _ => ?_)
        obtain ⟨r10, c10, l10, m10⟩ := cut_strs rs (some pl) none
        rw [c10] at e10
        repeat walk_at "rd"
        refine r_cat (s10 _ _ e9) e10 (by rw [List.length_append, List.length_map, List.length_map]; show _ + 1 + _ ≤ _; omega) (fun l11 H11 hl11 s11 e11 _ => ?_)
        have e11 : H11 l11 = some (.lst ((r5 ++ [y] ++ r10).map V.str)) := by rw [e11, List.map_append, List.map_append]; rfl
        have sh : Shorts (r5 ++ r10) := fun r hr => (List.mem_append.mp hr).elim (fun z => hs r (m5 r z)) (fun z => hs r (m10 r z))
        have ay2 : Asc (Txt.join (Str.ofString "") (r5 ++ [y] ++ r10)) := asc_join0 tl_nil fun x hx => by
          rcases List.mem_append.mp hx with z | z
          · rcases List.mem_append.mp z with z | z
            · exact (hs x (m5 x z)).1
            · rw [List.mem_singleton.mp z]; exact ay
          · exact (hs x (m10 x z)).1
        have sm5 := sum_short (rs := r5) fun r hr => hs r (m5 r hr)
        have sm10 := sum_short (rs := r10) fun r hr => hs r (m10 r hr)
        have sy : ((r5 ++ [y] ++ r10).map (·.length)).sum ≤ 60 * r5.length + y.length + 60 * r10.length := by
          rw [List.map_append, List.map_append, List.sum_append, List.sum_append]
          simp only [List.map_cons, List.map_nil, List.sum_cons, List.sum_nil]
          omega
        repeat walk_at "rd"
        refine r_join (.inl (.inl e11)) (by rw [le0]; omega) ?_
        refine q _ _ ay2 (by rw [len_join0 tl_nil]; omega) ((((hp7.same s8).same s9).same s10).same s11) ((((((k14.trans (.same s5)).trans k67).trans (.same s8)).trans (.same s9)).trans (.same s10)).trans (.same s11))
      · repeat walk_at "rd"
        refine r_dec (fun e5 => ?_) (fun e5 => ?_)
        · repeat walk_at "rd"
          refine r_slL (.inl (.inl hR4)) (fun p5 H5 hp5 s5 e5 _ => ?_)
          obtain ⟨r5, c5, l5, m5⟩ := cut_strs rs none (some pl)
          rw [c5] at e5
          repeat walk_at "rd"
          refine r_slL (.inl (.inl (s5 _ _ hR4))) (fun p6 H6 hp6 s6 e6 _ => ?_)
          obtain ⟨r6, c6, l6, m6⟩ := cut_strs rs (some (pl + 1)) none
          rw [c6] at e6
          repeat walk_at "rd"
          refine r_cat (s6 _ _ e5) e6 (by rw [List.length_map, List.length_map]; omega) (fun l7 H7 hl7 s7 e7 _ => ?_)
          have e7 : H7 l7 = some (.lst ((r5 ++ r6).map V.str)) := by rw [e7, List.map_append]
          have sh : Shorts (r5 ++ r6) := fun r hr => (List.mem_append.mp hr).elim (fun z => hs r (m5 r z)) (fun z => hs r (m6 r z))
          have sm := sum_short sh
          have lj := sh.len
          rw [List.length_append] at sm lj
          repeat walk_at "rd"
          refine r_join (.inl (.inl e7)) (by rw [le0]; omega) ?_
          exact q _ _ sh.join (by omega) (((hp4.same s5).same s6).same s7) (((k14.trans (.same s5)).trans (.same s6)).trans (.same s7))
        · repeat walk_at "rd"
          refine r_slL (.inl (.inl hR4)) (fun p5 H5 hp5 s5 e5 _ => ?_)
          obtain ⟨r5, c5, l5, m5⟩ := cut_strs rs none (some pl)
          rw [c5] at e5
          repeat walk_at "rd"
          refine r_slL (.inl (.inl (s5 _ _ hR4))) (fun p6 H6 hp6 s6 e6 _ => ?_)
          obtain ⟨r6, c6, l6, m6⟩ := cut_strs rs (some pl) (some (pl + 1))
          rw [c6] at e6
          repeat walk_at "rd"
          refine r_rep2 e6 (by rw [List.length_map]; omega) (fun p7 H7 hp7 s7 e7 _ => ?_)
          repeat walk_at "rd"
          refine r_cat ((s6.trans s7) _ _ e5) e7 (by simp only [List.length_append, List.length_map]; omega) (fun l8 H8 hl8 s8 e8 _ => ?_)
          repeat walk_at "rd"
          refine r_slL (.inl (.inl ((((s5.trans s6).trans s7).trans s8) _ _ hR4))) (fun p9 H9 hp9 s9 e9 _ => ?_)
          obtain ⟨r9, c9, l9, m9⟩ := cut_strs rs (some (pl + 1)) none
          rw [c9] at e9
          repeat walk_at "rd"
          refine r_cat (s9 _ _ e8) e9 (by simp only [List.length_append, List.length_map]; omega) (fun l10 H10 hl10 s10 e10 _ => ?_)
          have e10 : H10 l10 = some (.lst ((r5 ++ (r6 ++ r6) ++ r9).map V.str)) := by rw [e10]; simp only [List.map_append]
          have sh : Shorts (r5 ++ (r6 ++ r6) ++ r9) := fun r hr => by
            rcases List.mem_append.mp hr with z | z
            · rcases List.mem_append.mp z with z | z
              · exact hs r (m5 r z)
              · exact (List.mem_append.mp z).elim (fun z => hs r (m6 r z)) (fun z => hs r (m6 r z))
            · exact hs r (m9 r z)
          have sm := sum_short sh
          have lj := sh.len
          simp only [List.length_append] at sm lj
          repeat walk_at "rd"
          refine r_join (.inl (.inl e10)) (by rw [le0]; simp only [List.length_append]; omega) ?_
          exact q _ _ sh.join (by omega) ((((((hp4.same s5).same s6).same s7).same s8).same s9).same s10) ((((((k14.trans (.same s5)).trans (.same s6)).trans (.same s7)).trans (.same s8)).trans (.same s9)).trans (.same s10))

end
/-- what _law_refused makes of the lambda's reading: what is told; or the error's word, its value's repr, True -/
def RefE (K : PySem.W.Frag) (cw : List (Str × Str)) (Q : VK) : XK := fun cls d H => ∃ C w dd v z, (C, w) ∈ cw ∧ cls = .ref (He.ga K C) ∧ d = some dd ∧ H dd = some (.xd [("value", v)]) ∧ RpV K H v z ∧
  ∀ t H', H t = none → Same H H' → H' t = some (.tup [.str w, .str z, .bl true]) → Q (.ref t) H'
def TRef (K : PySem.W.Frag) (cw : List (Str × Str)) : (XK → Hp → VK → Prop) → Hp → VK → Prop := fun tl H Q => ∀ H0, Same H H0 → tl (RefE K cw Q) H0 (fun v H2 => ∀ t, H2 t = none → Q (.ref t) (upd H2 t (.tup [.str "told", v])))

def cws : List (Str × Str) := [("InvalidRecord", "refused")]
theorem sc_l_refused : FnScope ["_law_call", "_law_found", "e"] ["_law_call"] (defScope s_l_refused) := ⟨rfl, rfl, rfl, by decide +kernel, rfl, by decide +kernel, by decide +kernel⟩
theorem ref_gives {X : Cx} {g0 : Addr} {cdg : Value} {q : Str} (T : Tx X.K X.mg) (hg : Clr true X.A) (hr : Room 1 X.A) :
    GivesTo X ["_law_call", "_law_found", "e"] "_law_refused" (defScope s_l_refused) g0 cdg (defBody s_l_refused) "_law_call" q (TRef X.K cws) := by
  obtain ⟨prog, w, K, mg, base, A0, N0, s00, H00, env0, outer0, stack0, ex0, fn0, calm0, pn0, xe0⟩ := X
  have T : Tx K mg := T
  have hg : Clr true A0 := hg
  have hr : Room 1 A0 := hr
  intro f c' s H Q tl act hc h
  have h : TRef K cws tl H Q := h
  have hgS : Clr true (A0.deeper (envOfC "_law_refused" (defScope s_l_refused) s.heap.objs.size g0 cdg)) := clr_deeper hg
  have huS : (A0.deeper (envOfC "_law_refused" (defScope s_l_refused) s.heap.objs.size g0 cdg)).units + 64 < cLine := (hr.deeper _).units
  refine ⟨_, (pss_cons (ps_set (i := 1) sc_l_refused.nd rfl (by first | exact Or.inl rfl | exact Or.inr rfl) (pe_tup (pa_cons pe_str (pa_cons pe_non pa_nil))))
    (pss_cons (ps_tryAs rfl rfl sc_l_refused.nd takesNo (fun W pn xe tk _ => (pss_ex (fun Ech hW => (pss_one (ps_set (i := 1) sc_l_refused.nd rfl (by first | exact Or.inl rfl | exact Or.inr rfl) (pe_tup (pa_cons pe_str (pa_cons (act W pn xe Ech _ _ tk hW) pa_nil)))))))) (HdAs.cons (q := ⟨.ref (He.ga _ "InvalidRecord"), 2, _⟩) rfl rfl ⟨by rfl, by decide, .inl T.g_InvalidRecord⟩ (fun a oe cls d pn hz hf => (pss_len (n := 3) rfl (pss_one (ps_set (i := 1) sc_l_refused.nd rfl (by first | exact Or.inl rfl | exact Or.inr rfl) (pe_tup (pa_cons pe_str (pa_cons (pe_callB (cr_reprVK (K' := K) (clr_mark hgS) huS) (by rfl) T.m_repr (by decide +kernel) (pa_cons (pe_xf T.x_InvalidRecord.x T.nf_InvalidRecord hz hf (pv 2)) pa_nil)) (pa_cons (pe_callB (call_isEg T.x_InvalidRecord.e hz hf) (by rfl) T.m_isinstance (by decide +kernel) (pa_cons (pv 2) (pa_cons (pe_glob (v := .ref (He.ga K "LeastlogError")) (by rfl) T.g_LeastlogError rfl) pa_nil))) pa_nil)))))))) HdAs.nil))
    (pss_one (ps_ret (pv 1))))), ?_⟩
  walk_at "st"
  repeat walk_at "rd"
  refine r_new (by show 2 ≤ 100000; decide) (fun t0 H1 ht0 s1 e1 _ => ?_)
  repeat walk_at "rd"
  refine ⟨RefE K cws Q, ?_, ?_⟩
  · rintro cls d σ' H' ⟨C, w, dd, v, z, hm, rfl, rfl, ed, hz, q⟩
    simp only [cws, List.mem_cons, List.not_mem_nil, or_false, Prod.mk.injEq] at hm
    obtain ⟨rfl, rfl⟩ := hm
    refine wCls_yes T.e_InvalidRecord_InvalidRecord (fun a ha hl => ?_)
    dsimp only [endsOff]
    obtain ⟨x0, x1, x2, rfl⟩ := three (by simpa using hl)
    repeat walk_at "rd"
    refine ⟨rfl, rfl, dd, _, v, rfl, ed, lk1 _ _, ?_⟩
    repeat walk_at "rd"
    refine r_repr hz ?_
    repeat walk_at "rd"
    refine ⟨rfl, dd, _, _, true, _, rfl, rfl, ed, .own _, T.k_InvalidRecord_LeastlogError, ?_⟩
    repeat walk_at "rd"
    refine r_new (by show 3 ≤ 100000; decide) (fun t H2 ht s2 e2 _ => ?_)
    repeat walk_at "rd"
    exact q t H2 ht s2 e2
  · repeat walk_at "rd"
    refine ⟨rfl, s1 _ _ hc, ?_⟩
    refine cast (congrArg (tl _ H1) (funext fun v => funext fun H2 => propext ⟨fun z => ?_, fun z => ?_⟩)) (h H1 s1)
    · refine ⟨(by decide : 2 ≤ sizeLine), fun p H' hp s e ne => ?_⟩
      have := z p hp
      rw [← upd_of e ne] at this
      exact ⟨_, rfl, this⟩
    · intro t ht
      obtain ⟨v', e', q'⟩ := z.2 t _ ht (same_upd ht) upd_same (fun b hb => upd_ne hb)
      cases e'
      exact q'

/-- records and their rows -/
def sp_repl (K : PySem.W.Frag) : Sp := fun vs H Q _ => ∃ p R W, ∃ rs : List (List Nat), vs = [.ref p, .ref R, .ref W] ∧ PotAt H p ∧ H R = some (.lst (rs.map fun l => V.str (mkS l))) ∧ H W = some (.lst (rs.map fun l => V.str (mkS (rowL l)))) ∧ R ≠ p ∧ W ≠ p ∧ rs.length ≤ 10 ∧ (∀ l ∈ rs, RecL l) ∧ ∀ H', PotAt H' p → Fr (Tb K) [p] H H' → Q (.bl true) H'
theorem asc_row {l : List Nat} (h : ∀ c ∈ l, c < 128) : Asc (mkS (rowL l)) := fun c hc => by
  have hc : c ∈ rowL l := hc
  unfold rowL at hc
  simp only [List.mem_append, List.mem_cons, List.not_mem_nil, or_false] at hc
  rcases hc with z | rfl | z | rfl | z | rfl
  · have := TL.numL_digits _ c z; omega
  · decide
  · have := TL.numL_digits _ c z; omega
  · decide
  · exact h c z
  · decide

section
variable {P : Program} {w : World} {K : PySem.W.Frag} {mg : Str → Option Value} {base : Heap}
theorem sc_l_replaced_right : FnScope ["_law_pot_here", "_law_records", "_law_rows", "_law_place", "_law_row_here", "_law_at", "_law_sign", "_law_one", "_law_fresh", "_law_told"] ["_law_pot_here", "_law_records", "_law_rows"] (defScope s_l_replaced_right) := ⟨rfl, rfl, rfl, by decide +kernel, rfl, by decide +kernel, by decide +kernel⟩
theorem ok_l_replaced_right (T : Tx K mg) : FnG P w K mg base CX0 true 7 (He.ga K "_law_replaced_right") T.fd_l_replaced_right ["_law_pot_here", "_law_records", "_law_rows"] (sp_repl K) := by
  refine funG T.F_l_replaced_right sc_l_replaced_right (fun vs H Q E h => ?_) (fun cdv A outer s H vs Q E hr hg h => ?_)
  · obtain ⟨p, R, W, rs, e, _⟩ := h; rw [e]; rfl
  · obtain ⟨p, R, W, rs, rfl, hp, hR, hW, nR, nW, lr, hs, q⟩ := h
    refine ⟨_, (pss_cons (ps_if (pt_cmpR (op_eqD hr.units) (pv 2) (pe_lst pa_nil) (nomark _)) (pss_one (ps_ret pe_bl)) pss_nil)
    (pss_cons (ps_set (i := 3) sc_l_replaced_right.nd rfl (by first | exact Or.inl rfl | exact Or.inr rfl) (pg_call (ok_l_take T) (hr.mono (by decide)) hg (by rfl) T.g_l_take T.F_l_take.kp T.b_l_take .nil pass0 (pa_cons (pv 0) (pa_cons (pe_callB call_len (by rfl) T.m_len (by decide +kernel) (pa_cons (pv 2) pa_nil)) pa_nil))))
    (pss_cons (ps_set (i := 4) sc_l_replaced_right.nd rfl (by first | exact Or.inl rfl | exact Or.inr rfl) (pe_ix (ix_listK (K' := K)) (pv 2) (pv 3) (fun _ _ => rfl)))
    (pss_cons (ps_set (i := 5) sc_l_replaced_right.nd rfl (by first | exact Or.inl rfl | exact Or.inr rfl) (pg_call (ok_l_take T) (hr.mono (by decide)) hg (by rfl) T.g_l_take T.F_l_take.kp T.b_l_take .nil pass0 (pa_cons (pv 0) (pa_cons (pe_callB call_len (by rfl) T.m_len (by decide +kernel) (pa_cons (pv 4) pa_nil)) pa_nil))))
    (pss_cons (ps_set (i := 6) sc_l_replaced_right.nd rfl (by first | exact Or.inl rfl | exact Or.inr rfl) (pg_call (ok_l_pick T) (hr.mono (by decide)) hg (by rfl) T.g_l_pick T.F_l_pick.kp T.b_l_pick .nil pass0 (pa_cons (pv 0) (pa_cons (pe_lc (own := [("_law_one", 7)]) (by rfl) sc_l_replaced_right.nd (pi_str pe_str) (blkOk_by (own := [("_law_one", 7)]) (N := ["_law_pot_here", "_law_records", "_law_rows", "_law_place", "_law_row_here", "_law_at", "_law_sign", "_law_one", "_law_fresh", "_law_told"]) (sc := defScope s_l_replaced_right) (by decide +kernel)) (fun _ _ _ _ _ => (pg_name (i := 7) sc_l_replaced_right.nd rfl (by first | exact Or.inl rfl | exact Or.inr rfl))) (fun _ _ _ _ _ => (pts_one (pt_cmpR op_ne (pv 7) (pe_ix ix_str (pv 4) (pv 5) (fun _ _ => rfl)) (nomark _)))) (fun _ _ _ _ _ => (pv 7))) pa_nil))))
    (pss_cons (ps_set (i := 8) sc_l_replaced_right.nd rfl (by first | exact Or.inl rfl | exact Or.inr rfl) (pe_op op_add_str (pe_op op_add_str (pe_slice sl_str (pv 4) po_none (po_some (pv 5))) (pv 6)) (pe_slice sl_str (pv 4) (po_some (pe_op op_add (pv 5) pe_int)) po_none)))
    (pss_cons (ps_set (i := 9) sc_l_replaced_right.nd rfl (by first | exact Or.inl rfl | exact Or.inr rfl) (pg_call (ok_whole_records T) (hr.mono (by decide)) hg (by rfl) T.g_whole_records T.F_whole_records.kp T.b_whole_records .nil passN (pa_cons (pe_bm PySem.F.plainAttrs_str PySem.F.slot_str_join PySem.F.type_str_join mt_join pe_str (pa_cons (pe_op op_cat (pe_op op_cat (pe_slice sl_list (pv 2) po_none (po_some (pv 3))) (pe_lst (pa_cons (pv 8) pa_nil))) (pe_slice sl_list (pv 2) (po_some (pe_op op_add (pv 3) pe_int)) po_none)) pa_nil)) pa_nil)))
    (pss_one (ps_ret (pe_cmpR (op_eqD hr.units) (pv 9) (pe_slice sl_list (pv 1) po_none (po_some (pv 3))) (nomark _))))))))))), ?_⟩
    walk_at "st"
    repeat walk_at "rd"
    have eW : rs.map (fun l => V.str (mkS (rowL l))) = (rs.map fun l => mkS (rowL l)).map V.str := by rw [List.map_map]; rfl
    have eR : rs.map (fun l => V.str (mkS l)) = (rs.map mkS).map V.str := by rw [List.map_map]; rfl
    rw [eW] at hW
    rw [eR] at hR
    have aW : ∀ x ∈ rs.map (fun l => mkS (rowL l)), Asc x := fun x hx => by
      obtain ⟨l, hl, rfl⟩ := List.mem_map.mp hx
      exact asc_row fun c hc => ((hs l hl).2 c hc).1
    refine r_new (by show 0 ≤ 100000; decide) (fun p1 H1 hp1 s1 e1 _ => ?_)
    repeat walk_at "rd"
    refine r_eqStrs (ys := []) (s1 _ _ hW) e1 aW (fun x hx => nomatch hx) ?_
    repeat walk_at "rd"
    refine r_dec (fun e => ?_) (fun e => ?_)
    · repeat walk_at "rd"
      exact q _ (hp.same s1) (.same s1)
    · have n0 : 0 < rs.length := List.length_pos_iff.mpr fun z => e (by rw [z]; rfl)
      have hW1 := s1 _ _ hW
      have hR1 := s1 _ _ hR
      repeat walk_at "rd"
      refine use_take (hp.same s1) (by simp only [List.length_map]; omega) (by simp only [List.length_map]; omega) (fun pl H2 p0 p2 hp2 k2 => ?_)
      simp only [List.length_map] at p2
      have hW2 := k2.at_ hW1 trivial (by simpa using nW)
      have hR2 := k2.at_ hR1 trivial (by simpa using nR)
      obtain ⟨i, rfl⟩ := Int.eq_ofNat_of_zero_le p0
      have hi : i < rs.length := by omega
      repeat walk_at "rd"
      refine r_ixL (v := .str (mkS (rowL (rs[i]'hi)))) (.inl (.inl hW2)) (atI_nat (by simp [hi])) ?_
      repeat walk_at "rd"
      have hm : rs[i] ∈ rs := List.getElem_mem hi
      have hrec := hs _ hm
      have lr60 := row_len hrec.1
      have arow : Asc (mkS (rowL rs[i])) := asc_row fun c hc => (hrec.2 c hc).1
      obtain ⟨row, erow⟩ : ∃ row, row = rowL rs[i] := ⟨_, rfl⟩
      rw [← erow] at lr60 arow
      have l0 : 0 < row.length := by rw [erow, row_line]; simp; omega
      have lm : (mkS row).length = row.length := TL.len_tl _
      have lm1 : (mkS row).length ≤ 100000 := by omega
      rw [← erow]
      refine q_lenS lm1 ?_
      repeat walk_at "rd"
      refine use_take hp2 (by omega) (by omega) (fun at_ H3 a0 a1 hp3 k3 => ?_)
      obtain ⟨a, rfl⟩ := Int.eq_ofNat_of_zero_le a0
      have ha : a < row.length := by omega
      have hW3 := k3.at_ hW2 trivial (by simpa using nW)
      have hR3 := k3.at_ hR2 trivial (by simpa using nR)
      repeat walk_at "rd"
      refine q_its ?_
      have esg : TL.tl (Str.ofString " 0789abz~\n") = [32, 48, 55, 56, 57, 97, 98, 122, 126, 10] := by decide +kernel
      refine u_lcSf (fun D H4 hD s4 e4 _ => ⟨fun k H' => H' D = some (.lst ((([32, 48, 55, 56, 57, 97, 98, 122, 126, 10].take k).filter (fun c => !decide (c = row[a]))).map fun c => V.str ⟨#[c]⟩)) ∧ Same H3 H', ⟨e4, s4⟩, ?_, ?_⟩)
      · rintro k c H5 hc ⟨e5, s5⟩
        rw [esg] at hc
        repeat walk_at "rd"
        refine ⟨rfl, ?_⟩
        repeat walk_at "rd"
        refine r_ixS lm1 (atI_nat (by rw [show (mkS row).cps.toList = row from rfl]; exact List.getElem?_eq_getElem ha)) ?_
        repeat walk_at "rd"
        refine r_ndec (fun e => ?_) (fun e => ?_)
        · have ec : c ≠ row[a] := fun z => e (by rw [z])
          repeat walk_at "rd"
          refine g_grow e5 (by rw [List.length_map]; exact Nat.lt_of_le_of_lt (List.length_filter_le ..) (Nat.lt_of_le_of_lt (List.length_take_le' ..) (by decide))) (fun H6 e6 ne6 => ⟨?_, same_put s5 hD ne6⟩)
          rw [e6, filt_step hc, if_pos (by rw [decide_eq_false ec]; rfl), List.map_append]
          rfl
        · have ec : c = row[a] := by injection e with e; simpa using e
          exact ⟨by rw [filt_step hc, if_neg (by rw [decide_eq_true ec]; decide), List.append_nil]; exact e5, s5⟩
      · rintro H5 ⟨e5, s5⟩
        rw [esg, List.take_length] at e5
        repeat walk_at "rd"
        have nD := hp3.neq hD
        refine use_pickL (hp3.same s5) e5 nD ?_ ?_ (fun v H6 hv hp6 k6 => ?_)
        · by_cases z : row[a] = 32
          · exact List.ne_nil_of_mem (List.mem_map.mpr ⟨48, List.mem_filter.mpr ⟨by simp, by rw [z]; decide⟩, rfl⟩)
          · exact List.ne_nil_of_mem (List.mem_map.mpr ⟨32, List.mem_filter.mpr ⟨by simp, by rw [decide_eq_false (fun e => z e.symm)]; rfl⟩, rfl⟩)
        · rw [List.length_map]; exact Nat.lt_of_le_of_lt (List.length_filter_le ..) (by decide)
        obtain ⟨d, hdm, rfl⟩ := List.mem_map.mp hv
        obtain ⟨hdm, hdn⟩ := List.mem_filter.mp hdm
        have hdn : ¬ d = row[a] := by simpa using hdn
        have d128 : d < 128 := by
          simp only [List.mem_cons, List.not_mem_nil, or_false] at hdm
          omega
        have hW6 := k6.at_ (s5 _ _ hW3) trivial (by simpa using nW)
        have hR6 := k6.at_ (s5 _ _ hR3) trivial (by simpa using nR)
        have f6 := (((Fr.same s1).trans k2).trans k3).trans ((Fr.same s5).trans k6)
        clear hv e5 hD s4 e4
        have y1 := len_cut (mkS row) none (some (a : Int))
        have y2 := len_cut (mkS row) (some ((a : Int) + 1)) none
        have y3 : (⟨#[d]⟩ : Str).length = 1 := rfl
        repeat walk_at "rd"
        refine r_cutS lm1 ?_
        repeat walk_at "rd"
        refine ⟨_, _, rfl, rfl, by rw [lnL]; omega, ?_⟩
        repeat walk_at "rd"
        refine r_cutS lm1 ?_
        refine ⟨_, _, rfl, rfl, by rw [PySem.Str.length_append, lnL]; omega, ?_⟩
        have ef : cutS (mkS row) none (some (a : Int)) ++ ⟨#[d]⟩ ++ cutS (mkS row) (some ((a : Int) + 1)) none = mkS (row.take a ++ d :: row.drop (a + 1)) := TL.ext_tl (by
          rw [TL.tl_append, TL.tl_append, tl_to _ (by omega), show ((a : Int) + 1) = ((a + 1 : Nat) : Int) from rfl, tl_from, tl_mkS, tl_mkS, List.append_assoc]
          rfl)
        rw [ef]
        repeat walk_at "rd"
        refine r_slL (.inl (.inl hW6)) (fun p7 H7 hp7 s7 e7 _ => ?_)
        rw [cutV_to (by simp only [List.length_map]; omega)] at e7
        repeat walk_at "rd"
        refine r_new (by show 1 ≤ 100000; decide) (fun l8 H8 hl8 s8 e8 _ => ?_)
        repeat walk_at "rd"
        refine r_cat (s8 _ _ e7) e8 (by simp only [List.length_map, List.length_take, List.length_cons, List.length_nil]; omega) (fun l9 H9 hl9 s9 e9 _ => ?_)
        repeat walk_at "rd"
        refine r_slL (.inl (.inl (((s7.trans s8).trans s9) _ _ hW6))) (fun p10 H10 hp10 s10 e10 _ => ?_)
        rw [show ((i : Int) + 1) = ((i + 1 : Nat) : Int) from rfl, cutV_from (by simp only [List.length_map]; omega)] at e10
        repeat walk_at "rd"
        refine r_cat (s10 _ _ e9) e10 (by simp only [List.length_append, List.length_map, List.length_take, List.length_drop, List.length_cons, List.length_nil]; omega) (fun l11 H11 hl11 s11 e11 _ => ?_)
        have e11 : H11 l11 = some (.lst (((rs.take i).map (fun l => mkS (rowL l)) ++ [mkS (row.take a ++ d :: row.drop (a + 1))] ++ (rs.drop (i + 1)).map (fun l => mkS (rowL l))).map V.str)) := by
          rw [e11]; simp only [List.map_append, List.map_take, List.map_drop, List.map_cons, List.map_nil]
        have sh : Shorts ((rs.take i).map (fun l => mkS (rowL l)) ++ [mkS (row.take a ++ d :: row.drop (a + 1))] ++ (rs.drop (i + 1)).map (fun l => mkS (rowL l))) := fun r hr => by
          have one : ∀ l ∈ rs, Asc (mkS (rowL l)) ∧ (mkS (rowL l)).length ≤ 60 := fun l hl => ⟨asc_row fun c hc => ((hs l hl).2 c hc).1, by rw [TL.len_tl, tl_mkS]; exact row_len (hs l hl).1⟩
          rcases List.mem_append.mp hr with z | z
          · rcases List.mem_append.mp z with z | z
            · obtain ⟨l, hl, rfl⟩ := List.mem_map.mp z
              exact one l (List.mem_of_mem_take hl)
            · rw [List.mem_singleton.mp z]
              refine ⟨fun c hc => ?_, ?_⟩
              · rw [tl_mkS] at hc
                rcases List.mem_append.mp hc with z | z
                · exact arow c (List.mem_of_mem_take z)
                · rcases List.mem_cons.mp z with rfl | z
                  · exact d128
                  · exact arow c (List.mem_of_mem_drop z)
              · rw [TL.len_tl, tl_mkS, List.length_append, List.length_cons, List.length_take, List.length_drop]; omega
          · obtain ⟨l, hl, rfl⟩ := List.mem_map.mp z
            exact one l (List.mem_of_mem_drop hl)
        have sm := sum_short sh
        have lj := sh.len
        have ll : ((rs.take i).map (fun l => mkS (rowL l)) ++ [mkS (row.take a ++ d :: row.drop (a + 1))] ++ (rs.drop (i + 1)).map (fun l => mkS (rowL l))).length ≤ 10 := by
          simp only [List.length_append, List.length_map, List.length_take, List.length_drop, List.length_cons, List.length_nil]; omega
        repeat walk_at "rd"
        refine ⟨_, l11, _, rfl, rfl, .inl (.inl (.inl e11)), by rw [le0]; omega, ?_⟩
        repeat walk_at "rd"
        refine ⟨_, rfl, .inl ⟨_, rfl, sh.join, by omega, fun p12 H12 hp12 s12 e12 => ?_⟩⟩
        have ewho : whoL (lnsL (TL.tl (Txt.join (Str.ofString "") ((rs.take i).map (fun l => mkS (rowL l)) ++ [mkS (row.take a ++ d :: row.drop (a + 1))] ++ (rs.drop (i + 1)).map (fun l => mkS (rowL l)))))) = rs.take i := by
          rw [tl_join0 tl_nil]
          have w := who_fresh (d := d) hi (fun r hr => ⟨fun z => ((hs r hr).2 _ z).2 rfl, fun c hc => ((hs r hr).2 c hc).1⟩) (by rw [← erow]; exact ha) d128 (by
            intro z; apply hdn; rw [← z]; simp only [erow]) (((rs.drop (i + 1)).map rowL).flatten)
          rw [← erow] at w
          refine Eq.trans (congrArg (fun l => whoL (lnsL l)) ?_) w
          simp only [List.map_append, List.flatten_append, List.map_map, List.map_cons, List.map_nil, List.flatten_cons, List.flatten_nil, List.append_nil, Function.comp_def, tl_mkS, List.append_assoc]
        rw [ewho] at e12
        have s9_ := ((s7.trans s8).trans s9).trans (s10.trans (s11.trans s12))
        repeat walk_at "rd"
        refine r_slL (.inl (.inl (s9_ _ _ hR6))) (fun p13 H13 hp13 s13 e13 _ => ?_)
        rw [cutV_to (by simp only [List.length_map]; omega)] at e13
        have e12 : H13 p12 = some (.lst (((rs.take i).map mkS).map V.str)) := by rw [s13 _ _ e12, List.map_map]; rfl
        have e13 : H13 p13 = some (.lst (((rs.take i).map mkS).map V.str)) := by rw [e13, List.map_take, List.map_take]
        have aR : ∀ x ∈ (rs.take i).map mkS, Asc x := fun x hx => by
          obtain ⟨l, hl, rfl⟩ := List.mem_map.mp hx
          exact fun c hc => ((hs l (List.mem_of_mem_take hl)).2 c hc).1
        repeat walk_at "rd"
        refine r_eqStrs e12 e13 aR aR ?_
        rw [decide_eq_true rfl]
        exact q _ (hp6.same (s9_.trans s13)) (f6.trans (.same (s9_.trans s13)))

end
section
variable {K : PySem.W.Frag} {H0 H H' : Hp} {v : V} {tn : String}
/-- kind and repr of a value -/
structure Kn (K : PySem.W.Frag) (H : Hp) (v : V) (tn : String) (z : Str) : Prop where
  ty : TyX K H v (.type tn)
  k : tn ∈ kindsW
  r : RpA K H v z
theorem Kn.same {z : Str} (k : Kn K H v tn z) (s : Same H H') : Kn K H' v tn z := ⟨TyX.same k.ty s, k.k, k.r.1.same s, k.r.2⟩
theorem Kn.pl {z : Str} (k : Kn K H v tn z) (s : LL.SamP H H') : Kn K H' v tn z := ⟨TyX.pl k.ty s, k.k, k.r.1.pl s, k.r.2⟩
theorem kn_non : Kn K H .non "NoneType" (PyData.shown .none) := ⟨.base .non, by decide, rpa .non (by simp only [shwB]) (by simp only [ascD]) (by decide) (by decide)⟩
theorem kn_bl (b : Bool) : Kn K H (.bl b) "bool" (PyData.shown (.bool b)) := ⟨.base (.bl b), by decide, rpa (.bl b) (by simp only [shwB]) (by simp only [ascD]) (by simp [PyData.depth]) (by simp [szD])⟩
theorem kn_int {i : Int} (h : i.natAbs.log2 < 1920) : Kn K H (.int i) "int" (PyData.shown (.int i)) := ⟨.base (.int i), by decide, rpa (.int i) (by simp only [shwB]; exact h) (by simp only [ascD]) (by simp [PyData.depth]) (by simp [szD])⟩
theorem kn_str {x : Str} (h : Asc x) (hl : x.length ≤ 1000) : Kn K H (.str x) "str" (PyData.shown (.str x)) := ⟨.base (.str x), by decide, rpa (.str x) (by simp only [shwB]; exact h.ok8) (by simp only [ascD]; exact h) (by simp [PyData.depth]) (by simp only [szD]; omega)⟩
theorem kn_lst {l : Addr} {xs : List V} {ds : List PyData} (e : H l = some (.lst xs)) (hd : DpAll K H xs ds) (s : shwB (.list ds)) (as : ascD (.list ds)) (h1 : (PyData.list ds).depth ≤ 16) (h2 : szD (.list ds) ≤ 100000) : Kn K H (.ref l) "list" (PyData.shown (.list ds)) := ⟨.base (.lst e), by decide, rpa (.lst (.inl (.inl e)) hd) s as h1 h2⟩
theorem kn_tup {l : Addr} {xs : List V} {ds : List PyData} (e : H l = some (.tup xs)) (hd : DpAll K H xs ds) (s : shwB (.tuple ds)) (as : ascD (.tuple ds)) (h1 : (PyData.tuple ds).depth ≤ 16) (h2 : szD (.tuple ds) ≤ 100000) : Kn K H (.ref l) "tuple" (PyData.shown (.tuple ds)) := ⟨.base (.tup e), by decide, rpa (.tup (.inl (.inl e)) hd) s as h1 h2⟩
theorem kn_dict {l : Addr} (e : H l = some (.dK [])) : Kn K H (.ref l) "dict" (PyData.shown (.dict [])) := ⟨.base (.dK e), by decide, rpa0 e⟩
theorem kn_lstI {l : Addr} {i : Int} (e : H l = some (.lst [.int i])) (h : i.natAbs.log2 < 1920) : ∃ zr, Kn K H (.ref l) "list" zr := ⟨_, kn_lst e (.cons (.int i) .nil) (by simp only [shwB, shwAll]; exact ⟨h, trivial⟩) (by simp only [ascD, ascAll]; exact ⟨trivial, trivial⟩) (by simp [PyData.depth, PyData.depthAll]) (by simp [szD, szAll])⟩
theorem kn_tupI {l : Addr} {i : Int} (e : H l = some (.tup [.int i])) (h : i.natAbs.log2 < 1920) : ∃ zr, Kn K H (.ref l) "tuple" zr := ⟨_, kn_tup e (.cons (.int i) .nil) (by simp only [shwB, shwAll]; exact ⟨h, trivial⟩) (by simp only [ascD, ascAll]; exact ⟨trivial, trivial⟩) (by simp [PyData.depth, PyData.depthAll]) (by simp [szD, szAll])⟩
theorem kn_lst0 {l : Addr} (e : H l = some (.lst [])) : ∃ zr, Kn K H (.ref l) "list" zr := ⟨_, kn_lst e .nil (by simp only [shwB, shwAll]) (by simp only [ascD, ascAll]) (by simp [PyData.depth, PyData.depthAll]) (by simp [szD, szAll])⟩
theorem kn_tup0 {l : Addr} (e : H l = some (.tup [])) : ∃ zr, Kn K H (.ref l) "tuple" zr := ⟨_, kn_tup e .nil (by simp only [shwB, shwAll]) (by simp only [ascD, ascAll]) (by simp [PyData.depth, PyData.depthAll]) (by simp [szD, szAll])⟩
theorem kn_lstS {l : Addr} {x : Str} (e : H l = some (.lst [.str x])) (h : Asc x) (hl : x.length ≤ 1000) : ∃ zr, Kn K H (.ref l) "list" zr := ⟨_, kn_lst e (.cons (.str x) .nil) (by simp only [shwB, shwAll]; exact ⟨h.ok8, trivial⟩) (by simp only [ascD, ascAll]; exact ⟨h, trivial⟩) (by simp [PyData.depth, PyData.depthAll]) (by simp only [szD, szAll]; omega)⟩
theorem log10 : ((10 : Int) ^ (29 : Int).toNat).natAbs.log2 < 1920 := by decide +kernel
theorem log10n : (-((10 : Int) ^ (29 : Int).toNat)).natAbs.log2 < 1920 := by decide +kernel
theorem ten29 : (10 : Int) ^ (29 : Int).toNat = 100000000000000000000000000000 := by decide +kernel
end

/-- the pot, the records and their rows -/
structure MS (K : PySem.W.Frag) (H0 H : Hp) (p R W : Addr) (rs : List (List Nat)) : Prop where
  hp : PotAt H p
  eR : H R = some (.lst (rs.map fun l => V.str (mkS l)))
  eW : H W = some (.lst (rs.map fun l => V.str (mkS (rowL l))))
  nR : R ≠ p
  nW : W ≠ p
  tb : Tabs (Tb K) H
  fr : LL.Fr (Tb K) [p] H0 H
section
variable {K : PySem.W.Frag} {H0 H H' : Hp} {p R W : Addr} {rs : List (List Nat)}
theorem MS.same (m : MS K H0 H p R W rs) (s : Same H H') : MS K H0 H' p R W rs := ⟨m.hp.same s, s _ _ m.eR, s _ _ m.eW, m.nR, m.nW, m.tb.ext s, m.fr.trans (.same s)⟩
theorem MS.go (m : MS K H0 H p R W rs) (f : LL.Fr (Tb K) [p] H H') (hp : PotAt H' p) : MS K H0 H' p R W rs :=
  ⟨hp, f.at_ m.eR trivial (by simpa using m.nR), f.at_ m.eW trivial (by simpa using m.nW), m.nR, m.nW, f.tb m.tb, m.fr.trans f⟩
theorem MS.put {H1 H2 H3 : Hp} {D : Addr} {xs : List V} (m : MS K H0 H1 p R W rs) (hD : H1 D = none) (s : Same H1 H2) (e : H2 D = some (.lst xs)) (ne : ∀ b, b ≠ D → H3 b = H2 b) : MS K H0 H3 p R W rs := by
  have f : LL.Fr (Tb K) [D, p] H1 H3 := (LL.Fr.same s).trans (.set e trivial (by simp) ne)
  exact ⟨(m.hp.same s).off (m.hp.neq hD) ne, by rw [ne R (ne_of_none m.eR hD)]; exact s _ _ m.eR, by rw [ne W (ne_of_none m.eW hD)]; exact s _ _ m.eW, m.nR, m.nW, f.tb m.tb, LL.Fr.step m.fr hD f⟩
theorem MS.lam (m : MS K H0 H p R W rs) (f : LL.Fr (Tb K) [] H H') : MS K H0 H' p R W rs := m.go (f.mono (by simp)) (m.hp.fr f (by simp))
end
def sp_more (K : PySem.W.Frag) : Sp := fun vs H Q _ => ∃ p R W, ∃ rs : List (List Nat), vs = [.ref p, .ref R, .ref W] ∧ MS K H H p R W rs ∧ rs.length ≤ 10 ∧ (∀ l ∈ rs, RecL l) ∧ ∀ H', PotAt H' p → Fr (Tb K) [p] H H' → Q (.bl true) H'
theorem shorts_rows {rs : List (List Nat)} (hs : ∀ l ∈ rs, RecL l) : Shorts (rs.map fun l => mkS (rowL l)) := fun r hr => by
  obtain ⟨l, hl, rfl⟩ := List.mem_map.mp hr
  exact ⟨asc_row fun c hc => ((hs l hl).2 c hc).1, by rw [TL.len_tl, tl_mkS]; exact row_len (hs l hl).1⟩
theorem tl_rows (rs : List (List Nat)) : TL.tl (Txt.join (Str.ofString "") (rs.map fun l => mkS (rowL l))) = (rs.map rowL).flatten := by
  rw [tl_join0 tl_nil, List.map_map]
  rfl
theorem MS.re {K : PySem.W.Frag} {H0 H : Hp} {p R W : Addr} {rs : List (List Nat)} (m : MS K H0 H p R W rs) : MS K H H p R W rs := ⟨m.hp, m.eR, m.eW, m.nR, m.nW, m.tb, .refl⟩
section
variable {K : PySem.W.Frag} {H : Hp} {l : Addr} {x y : Str}
theorem ka_lst0 (e : H l = some (.lst [])) : Kn K H (.ref l) "list" (PyData.shown (.list [])) := kn_lst e .nil (by simp only [shwB, shwAll]) (by simp only [ascD, ascAll]) (by simp [PyData.depth, PyData.depthAll]) (by simp [szD, szAll])
theorem ka_lstS (e : H l = some (.lst [.str x])) (h : Asc x) (hl : x.length ≤ 1000) : Kn K H (.ref l) "list" (PyData.shown (.list [.str x])) := kn_lst e (.cons (.str x) .nil) (by simp only [shwB, shwAll]; exact ⟨h.ok8, trivial⟩) (by simp only [ascD, ascAll]; exact ⟨h, trivial⟩) (by simp [PyData.depth, PyData.depthAll]) (by simp only [szD, szAll]; omega)
theorem ka_tupSS (e : H l = some (.tup [.str x, .str y])) (hx : Asc x) (hy : Asc y) (lx : x.length ≤ 1000) (ly : y.length ≤ 1000) : Kn K H (.ref l) "tuple" (PyData.shown (.tuple [.str x, .str y])) := kn_tup e (.cons (.str x) (.cons (.str y) .nil)) (by simp only [shwB, shwAll]; exact ⟨hx.ok8, hy.ok8, trivial⟩) (by simp only [ascD, ascAll]; exact ⟨hx, hy, trivial⟩) (by simp [PyData.depth, PyData.depthAll]) (by simp only [szD, szAll]; omega)
end

section
variable {P : Program} {w : World} {K : PySem.W.Frag} {mg : Str → Option Value} {base : Heap}
theorem sc_l_more_right : FnScope ["_law_pot_here", "_law_records", "_law_rows", "_law_text", "_law_turn", "_law_spoilt_here", "_law_told", "_law_begun", "_law_odd", "_law_wrong"] ["_law_pot_here", "_law_records", "_law_rows"] (defScope s_l_more_right) := ⟨rfl, rfl, rfl, by decide +kernel, rfl, by decide +kernel, by decide +kernel⟩
theorem ok_l_more_right (T : Tx K mg) (TB : ∀ q ∈ tabsIn K ftabs, TabB base mg q.1 q.2) : FnG P w K mg base CX0 true 9 (He.ga K "_law_more_right") T.fd_l_more_right ["_law_pot_here", "_law_records", "_law_rows"] (sp_more K) := by
  refine funX T.F_l_more_right sc_l_more_right (fun vs H Q E h => ?_) (fun cdv A outer s H vs Q E hc hr hg h => ?_)
  · obtain ⟨p, R, W, rs, e, _⟩ := h; rw [e]; rfl
  · obtain ⟨p, R, W, rs, rfl, ms, lr, hs, q⟩ := h
    refine ⟨_, (pss_cons (ps_set (i := 3) sc_l_more_right.nd rfl (by first | exact Or.inl rfl | exact Or.inr rfl) (pe_bm PySem.F.plainAttrs_str PySem.F.slot_str_join PySem.F.type_str_join mt_join pe_str (pa_cons (pv 2) pa_nil)))
    (pss_cons (ps_for (passes_of rfl) (by rfl) (pi_range1 (by rfl) T.m_range (pa_cons pe_int pa_nil)) (pg_name (i := 4) sc_l_more_right.nd rfl (by first | exact Or.inl rfl | exact Or.inr rfl)) (pss_cons (ps_set (i := 5) sc_l_more_right.nd rfl (by first | exact Or.inl rfl | exact Or.inr rfl) (pg_call (ok_l_spoilt T) (hr.mono (by decide)) hg (by rfl) T.g_l_spoilt T.F_l_spoilt.kp T.b_l_spoilt .nil pass0 (pa_cons (pv 0) (pa_cons (pv 2) pa_nil))))
    (pss_cons (ps_set (i := 6) sc_l_more_right.nd rfl (by first | exact Or.inl rfl | exact Or.inr rfl) (pg_call (ok_whole_records T) (hr.mono (by decide)) hg (by rfl) T.g_whole_records T.F_whole_records.kp T.b_whole_records .nil passN (pa_cons (pv 5) pa_nil)))
    (pss_cons (ps_if (pt_cmpR (op_neD hr.units) (pv 6) (pg_call (ok_l_whole T) (hr.mono (by decide)) hg (by rfl) T.g_l_whole T.F_l_whole.kp T.b_l_whole .nil pass0 (pa_cons (pv 5) pa_nil)) (nomark _)) (pss_one (ps_ret pe_bl)) pss_nil)
    (pss_cons (ps_expr (pe_bm PySem.F.plainAttrs_list PySem.F.slot_list_append PySem.F.type_list_append mt_append (pv 6) (pa_cons pe_str pa_nil)))
    (pss_one (ps_if (pt_cmpR (op_neD hr.units) (pg_call (ok_whole_records T) (hr.mono (by decide)) hg (by rfl) T.g_whole_records T.F_whole_records.kp T.b_whole_records .nil passN (pa_cons (pv 5) pa_nil)) (pe_slice sl_list (pv 6) po_none (po_some (pe_un un_neg pe_int))) (nomark _)) (pss_one (ps_ret pe_bl)) pss_nil)))))))
    (pss_cons (ps_set (i := 7) sc_l_more_right.nd rfl (by first | exact Or.inl rfl | exact Or.inr rfl) (pg_call (ok_whole_records T) (hr.mono (by decide)) hg (by rfl) T.g_whole_records T.F_whole_records.kp T.b_whole_records .nil passN (pa_cons (pe_slice sl_str (pv 3) po_none (po_some (pg_call (ok_l_take T) (hr.mono (by decide)) hg (by rfl) T.g_l_take T.F_l_take.kp T.b_l_take .nil pass0 (pa_cons (pv 0) (pa_cons (pe_op op_add (pe_callB call_len (by rfl) T.m_len (by decide +kernel) (pa_cons (pv 3) pa_nil)) pe_int) pa_nil))))) pa_nil)))
    (pss_cons (ps_if (PW.pt (pw_or (pt_cmpR (op_neD hr.units) (pv 7) (pe_slice sl_list (pv 1) po_none (po_some (pe_callB call_len (by rfl) T.m_len (by decide +kernel) (pa_cons (pv 7) pa_nil)))) (nomark _)) (pw_or1 (pt_not (pt_val (pg_call (ok_l_replaced_right T) (hr.mono (by decide)) hg (by rfl) T.g_l_replaced_right T.F_l_replaced_right.kp T.b_l_replaced_right .nil pass0 (pa_cons (pv 0) (pa_cons (pv 1) (pa_cons (pv 2) pa_nil))))))))) (pss_one (ps_ret pe_bl)) pss_nil)
    (pss_cons (ps_set (i := 8) sc_l_more_right.nd rfl (by first | exact Or.inl rfl | exact Or.inr rfl) (pg_call (ok_l_pick T) (hr.mono (by decide)) hg (by rfl) T.g_l_pick T.F_l_pick.kp T.b_l_pick .nil pass0 (pa_cons (pv 0) (pa_cons (pe_lst (pa_cons pe_non (pa_cons pe_int (pa_cons pe_bl (pa_cons (pe_lst (pa_cons pe_str pa_nil)) (pa_cons (pe_tup (pa_cons pe_str (pa_cons pe_str pa_nil))) (pa_cons pe_dnewK (pa_cons (pe_lst pa_nil) (pa_cons pe_int pa_nil))))))))) pa_nil))))
    (pss_cons (ps_if (pt_cmpR (op_neD hr.units) (pg_lamK (k := 6) T.F_l_refused T.b_l_refused (by rfl) T.g_l_refused sc_l_refused rfl (Or.inl rfl) (fun cdv => ref_gives T hg (hr.mono (by decide))) T.tb_l_more_right.choose_spec.choose_spec (by decide) TB T.tabU hc (hr.mono (by decide)) (lamS_by (sc := defScope s_l_more_right) (by decide +kernel)) rfl (fun _ _ _ _ _ => rfl) (fun A outer s H E f c' hr => (pg_call (ok_whole_records T) (hr.mono (by decide)) clr_no (by rfl) T.g_whole_records T.F_whole_records.kp T.b_whole_records .nil (passX (takes_of rfl rfl rfl rfl) (fun _ _ _ _ h => h)) (pa_cons (pv 8) pa_nil)))) (pe_tup (pa_cons pe_str (pa_cons (pe_callB (cr_reprV hg hr.units) (by rfl) T.m_repr (by decide +kernel) (pa_cons (pv 8) pa_nil)) (pa_cons pe_bl pa_nil)))) (nomark _)) (pss_one (ps_ret pe_bl)) pss_nil)
    (pss_cons (ps_set (i := 9) sc_l_more_right.nd rfl (by first | exact Or.inl rfl | exact Or.inr rfl) (pg_call (ok_l_pick T) (hr.mono (by decide)) hg (by rfl) T.g_l_pick T.F_l_pick.kp T.b_l_pick .nil pass0 (pa_cons (pv 0) (pa_cons (pe_lst (pa_cons (pv 8) (pa_cons pe_str (pa_cons pe_str (pa_cons (pe_op op_add_str (pv 3) pe_str) (pa_cons pe_str pa_nil)))))) pa_nil))))
    (pss_one (ps_ret (pe_cmpR (op_eqD hr.units) (pg_lamK (k := 4) T.F_l_refused T.b_l_refused (by rfl) T.g_l_refused sc_l_refused rfl (Or.inl rfl) (fun cdv => ref_gives T hg (hr.mono (by decide))) T.tb_l_more_right.choose_spec.choose_spec (by decide) TB T.tabU hc (hr.mono (by decide)) (lamS_by (sc := defScope s_l_more_right) (by decide +kernel)) rfl (fun _ _ _ _ _ => rfl) (fun A outer s H E f c' hr => (pg_call (ok_sealed T) (hr.mono (by decide)) clr_no (by rfl) T.g_sealed T.F_sealed.kp T.b_sealed .nil (passX (takes_of rfl rfl rfl rfl) (fun _ _ _ _ h => h)) (pa_cons (pv 9) pa_nil)))) (pe_tup (pa_cons pe_str (pa_cons (pe_callB (cr_reprV hg hr.units) (by rfl) T.m_repr (by decide +kernel) (pa_cons (pv 9) pa_nil)) (pa_cons pe_bl pa_nil)))) (nomark _))))))))))), ?_⟩
    walk_at "st"
    repeat walk_at "rd"
    have sh := shorts_rows hs
    have eW' : ∀ {H1 : Hp}, MS K H H1 p R W rs → H1 W = some (.lst ((rs.map fun l => mkS (rowL l)).map V.str)) := fun m => by rw [m.eW, List.map_map]; rfl
    have sm := sum_short sh
    have lj := sh.len
    have aj := sh.join
    have tj := tl_rows rs
    rw [List.length_map] at sm lj
    refine ⟨_, W, _, rfl, rfl, .inl (.inl (.inl (eW' ms))), by rw [le0]; omega, ?_⟩
    obtain ⟨tx, etx⟩ : ∃ tx, tx = Txt.join (Str.ofString "") (rs.map fun l => mkS (rowL l)) := ⟨_, rfl⟩
    rw [← etx] at lj aj tj ⊢
    have ltx : tx.length ≤ 600 := by omega
    have ltx1 : tx.length ≤ 100000 := by omega
    clear sm lj etx
    repeat walk_at "rd"
    refine ⟨by omega, by omega, ?_⟩
    refine u_range (fun i σ H' => ∃ x4 x5 x6, σ = [some (V.ref p), some (V.ref R), some (V.ref W), some (V.str tx), x4, x5, x6, none, none, none] ∧ MS K H H' p R W rs) ⟨_, _, _, rfl, ms⟩ ?_ ?_
    · rintro i σ H1 hi ⟨x4, x5, x6, rfl, ms⟩
      repeat walk_at "rd"
      refine ⟨p, W, _, rfl, ms.hp, eW' ms, ms.nW, by rw [List.length_map]; exact lr, sh, fun y H2 ay ly hp2 k2 => ?_⟩
      have ms := ms.go k2 hp2
      repeat walk_at "rd"
      refine ⟨_, rfl, .inl ⟨y, rfl, ay, ly, fun pt H3 hpt s3 e3 => ?_⟩⟩
      have ms0 := ms
      have ms := ms.same s3
      repeat walk_at "rd"
      refine ⟨y, rfl, ay, ly, fun pw H4 hpw s4 e4 => ?_⟩
      have ms := ms.same s4
      have aw : ∀ l ∈ whoL (lnsL (TL.tl y)), ∀ c ∈ l, c < 128 := fun l hl c hc => ay c (who_mem hl c hc)
      have wc := who_cnt (TL.tl y)
      rw [← TL.len_tl] at wc
      repeat walk_at "rd"
      refine r_neL (s4 _ _ e3) e4 aw ?_
      repeat walk_at "rd"
      refine q_list (s4 _ _ e3) ?_
      repeat walk_at "rd"
      refine q_grown (s4 _ _ e3) (by rw [List.length_map]; omega) (fun H5 e5 ne5 => ?_)
      have ms := ms0.put hpt (s3.trans s4) (s4 _ _ e3) ne5
      repeat walk_at "rd"
      refine ⟨_, rfl, .inl ⟨y, rfl, ay, ly, fun pu H6 hpu s6 e6 => ?_⟩⟩
      have ms := ms.same s6
      repeat walk_at "rd"
      refine r_slL (.inl (.inl (s6 _ _ e5))) (fun pv H7 hpv s7 e7 _ => ?_)
      have ms := ms.same s7
      rw [show (-(1 : Int)) = -1 from rfl, cut_ini, List.dropLast_concat] at e7
      refine r_neL (s7 _ _ e6) e7 aw ?_
      repeat walk_at "rd"
      exact ⟨_, _, _, rfl, ms⟩
    · rintro σ H1 ⟨x4, x5, x6, rfl, ms⟩
      repeat walk_at "rd"
      refine use_take ms.hp (by omega) (by omega) (fun d H2 d0 d1 hp2 k2 => ?_)
      have ms := ms.go k2 hp2
      obtain ⟨k, rfl⟩ := Int.eq_ofNat_of_zero_le d0
      repeat walk_at "rd"
      refine r_cutS ltx1 ?_
      obtain ⟨j, ej⟩ := who_take rs k (fun r hr z => ((hs r hr).2 _ z).2 rfl)
      have ec : TL.tl (cutS tx none (some (k : Int))) = ((rs.map rowL).flatten).take k := by rw [tl_to _ (by omega), tj]
      have lc := len_cut tx none (some (k : Int))
      repeat walk_at "rd"
      refine ⟨_, rfl, .inl ⟨_, rfl, asc_cut aj _ _, by omega, fun pb H3 hpb s3 e3 => ?_⟩⟩
      have ms := ms.same s3
      rw [ec, ej] at e3
      have aw : ∀ l ∈ rs.take j, ∀ c ∈ l, c < 128 := fun l hl c hc => ((hs l (List.mem_of_mem_take hl)).2 c hc).1
      repeat walk_at "rd"
      refine r_slL (.inl (.inl ms.eR)) (fun pv H4 hpv s4 e4 _ => ?_)
      have ms := ms.same s4
      rw [List.length_map, cutV_to (by rw [List.length_map]; exact List.length_take_le' ..), ← List.map_take, take_len] at e4
      refine r_neL (s4 _ _ e3) e4 aw ?_
      repeat walk_at "rd"
      refine ⟨p, R, W, rs, rfl, ms.hp, ms.eR, ms.eW, ms.nR, ms.nW, lr, hs, fun H5 hp5 k5 => ?_⟩
      have ms := ms.go k5 hp5
      repeat walk_at "rd"
      refine r_new (by show 1 ≤ 100000; decide) (fun l1 A1 hl1 s1 e1 _ => ?_)
      have n1 := ms.hp.neq hl1
      have ms := ms.same s1
      repeat walk_at "rd"
      refine r_new (by show 2 ≤ 100000; decide) (fun t2 A2 ht2 s2 e2 _ => ?_)
      have n2 := ms.hp.neq ht2
      have ms := ms.same s2
      repeat walk_at "rd"
      refine r_dnew (fun d3 A3 hd3 s3 e3 _ => ?_)
      have n3 := ms.hp.neq hd3
      have ms := ms.same s3
      repeat walk_at "rd"
      refine r_new (by show 0 ≤ 100000; decide) (fun l4 A4 hl4 s4 e4 _ => ?_)
      have n4 := ms.hp.neq hl4
      have ms := ms.same s4
      repeat walk_at "rd"
      refine r_new (by show 8 ≤ 100000; decide) (fun l5 A5 hl5 s5 e5 _ => ?_)
      have n5 := ms.hp.neq hl5
      have ms := ms.same s5
      repeat walk_at "rd"
      refine use_pickL ms.hp e5 n5 (by simp) (by simp) (fun v A6 hv hp6 k6 => ?_)
      have odd : ∃ tn zr, tn ≠ "str" ∧ ∀ H', Fr (Tb K) [p] A6 H' → Kn K H' v tn zr := by
        have f1 : A6 l1 = some (.lst [.str "a"]) := k6.at_ (s5 _ _ (s4 _ _ (s3 _ _ (s2 _ _ e1)))) trivial (by simpa using n1)
        have f2 : A6 t2 = some (.tup [.str "a", .str "b"]) := k6.at_ (s5 _ _ (s4 _ _ (s3 _ _ e2))) trivial (by simpa using n2)
        have f3 : A6 d3 = some (.dK []) := k6.at_ (s5 _ _ (s4 _ _ e3)) trivial (by simpa using n3)
        have f4 : A6 l4 = some (.lst []) := k6.at_ (s5 _ _ e4) trivial (by simpa using n4)
        simp only [List.mem_cons, List.not_mem_nil, or_false] at hv
        rcases hv with rfl | rfl | rfl | rfl | rfl | rfl | rfl | rfl
        · exact ⟨_, _, by decide, fun H' k => kn_non⟩
        · exact ⟨_, _, by decide, fun H' k => kn_int (log_small (by decide))⟩
        · exact ⟨_, _, by decide, fun H' k => kn_bl _⟩
        · exact ⟨_, _, by decide, fun H' k => ka_lstS (k.at_ f1 trivial (by simpa using n1)) (asc_by (by decide +kernel)) (by decide +kernel)⟩
        · exact ⟨_, _, by decide, fun H' k => ka_tupSS (k.at_ f2 trivial (by simpa using n2)) (asc_by (by decide +kernel)) (asc_by (by decide +kernel)) (by decide +kernel) (by decide +kernel)⟩
        · exact ⟨_, _, by decide, fun H' k => kn_dict (k.at_ f3 trivial (by simpa using n3))⟩
        · exact ⟨_, _, by decide, fun H' k => ka_lst0 (k.at_ f4 trivial (by simpa using n4))⟩
        · exact ⟨_, _, by decide, fun H' k => kn_int (log_small (by decide))⟩
      have ms := ms.go k6 hp6
      have f06 := ms.fr
      have ms := ms.re
      obtain ⟨tn, zr, hns, hk⟩ := odd
      clear hv k6 hp6 e5 e4 e3 e2 e1
      repeat walk_at "rd"
      refine r_lam ms.tb (fun H7 k7 tb7 => ?_)
      intro H8 s8
      dsimp only
      have ms := (ms.lam k7).same s8
      have kn := hk _ ms.fr
      repeat walk_at "rd"
      refine ⟨v, rfl, .inr ⟨⟨tn, kn.ty, kn.k, hns⟩, fun dd H9 hdd s9 e9 => ?_⟩⟩
      refine ⟨"InvalidRecord", "refused", dd, v, zr, by simp [cws], rfl, rfl, e9, kn.r.1.same s9, fun t10 H10 ht10 s10 e10 => ?_⟩
      have ms := (ms.same s9).same s10
      have kn := hk _ ms.fr
      repeat walk_at "rd"
      refine r_repr kn.r.1 ?_
      repeat walk_at "rd"
      refine r_new (by show 3 ≤ 100000; decide) (fun t11 H11 ht11 s11 e11 _ => ?_)
      repeat walk_at "rd"
      refine r_neDs (dp_told (s11 _ _ e10)) (dp_told e11) (shaped_told true (asc_by (by decide +kernel)) kn.r.2) ?_
      have ms := ms.same s11
      clear hdd e9 s9 ht10 s10 e10 ht11 s11 e11 k7 s8 tb7
      repeat walk_at "rd"
      refine ⟨_, _, rfl, rfl, by rw [lf, lnL]; omega, ?_⟩
      repeat walk_at "rd"
      refine r_new (by show 5 ≤ 100000; decide) (fun l12 H12 hl12 s12 e12 _ => ?_)
      have n12 := ms.hp.neq hl12
      have ms := ms.same s12
      repeat walk_at "rd"
      refine use_pickL ms.hp e12 n12 (by simp) (by simp) (fun w H13 hw hp13 k13 => ?_)
      have ms := ms.go k13 hp13
      have wr : ∃ tn zr, (tn ≠ "str" ∨ ∃ z, w = .str z ∧ 10 ∈ TL.tl z) ∧ ∀ H', Fr (Tb K) [p] A6 H' → Kn K H' w tn zr := by
        simp only [List.mem_cons, List.not_mem_nil, or_false] at hw
        rcases hw with rfl | rfl | rfl | rfl | rfl
        · exact ⟨_, _, .inl hns, hk⟩
        · exact ⟨_, _, .inr ⟨_, rfl, by decide +kernel⟩, fun H' k => kn_str (asc_by (by decide +kernel)) (by decide +kernel)⟩
        · exact ⟨_, _, .inr ⟨_, rfl, by decide +kernel⟩, fun H' k => kn_str (asc_by (by decide +kernel)) (by decide +kernel)⟩
        · exact ⟨_, _, .inr ⟨_, rfl, by rw [TL.tl_append, tlf]; simp⟩, fun H' k => kn_str (aj.app (asc_by (by decide +kernel))) (by rw [PySem.Str.length_append, lf]; omega)⟩
        · exact ⟨_, _, .inr ⟨_, rfl, by decide +kernel⟩, fun H' k => kn_str (asc_by (by decide +kernel)) (by decide +kernel)⟩
      obtain ⟨tn, zr, hnw, hk⟩ := wr
      clear hw k13 hp13 e12
      repeat walk_at "rd"
      refine r_lam ms.tb (fun H7 k7 tb7 => ?_)
      intro H8 s8
      dsimp only
      have ms := (ms.lam k7).same s8
      have kn := hk _ ms.fr
      repeat walk_at "rd"
      refine ⟨w, rfl, .inr ⟨?_, fun dd H9 hdd s9 e9 => ?_⟩⟩
      · rcases hnw with h | h
        · exact .inl ⟨tn, kn.ty, kn.k, h⟩
        · exact .inr h
      refine ⟨"InvalidRecord", "refused", dd, w, zr, by simp [cws], rfl, rfl, e9, kn.r.1.same s9, fun t10 H10 ht10 s10 e10 => ?_⟩
      have ms := (ms.same s9).same s10
      have kn := hk _ ms.fr
      repeat walk_at "rd"
      refine r_repr kn.r.1 ?_
      repeat walk_at "rd"
      refine r_new (by show 3 ≤ 100000; decide) (fun t11 H11 ht11 s11 e11 _ => ?_)
      repeat walk_at "rd"
      refine r_eqDs (dp_told (s11 _ _ e10)) (dp_told e11) (shaped_told true (asc_by (by decide +kernel)) kn.r.2) ?_
      have ms := ms.same s11
      repeat walk_at "rd"
      exact q _ ms.hp (f06.trans ms.fr)

end
def sp_right (K : PySem.W.Frag) : Sp := fun vs H Q _ => ∃ p, vs = [.ref p] ∧ PotAt H p ∧ Tabs (Tb K) H ∧ ∀ H', LL.Fr (Tb K) [p] H H' → Q (.bl true) H'

section
variable {P : Program} {w : World} {K : PySem.W.Frag} {mg : Str → Option Value} {base : Heap}
theorem sc_l_right : FnScope ["_law_pot_here", "_law_records", "_law_k", "_law_rows", "_law_record_here"] ["_law_pot_here"] (defScope s_l_right) := ⟨rfl, rfl, rfl, by decide +kernel, rfl, by decide +kernel, by decide +kernel⟩
theorem ok_l_right (T : Tx K mg) (TB : ∀ q ∈ tabsIn K ftabs, TabB base mg q.1 q.2) : FnG P w K mg base CX0 true 10 (He.ga K "_law_right") T.fd_l_right ["_law_pot_here"] (sp_right K) := by
  refine funG T.F_l_right sc_l_right (fun vs H Q E h => ?_) (fun cdv A outer s H vs Q E hr hg h => ?_)
  · obtain ⟨p, e, _⟩ := h; rw [e]; rfl
  · obtain ⟨p, rfl, hp, tb, q⟩ := h
    refine ⟨_, (pss_cons (ps_setLc (i := 1) (own := [("_law_k", 2)]) (by rfl) sc_l_right.nd rfl rfl (sw_true rfl rfl rfl (by decide +kernel)) (pi_range1 (by rfl) T.m_range (pa_cons (pg_call (ok_l_take T) (hr.mono (by decide)) hg (by rfl) T.g_l_take T.F_l_take.kp T.b_l_take .nil pass0 (pa_cons (pv 0) (pa_cons pe_int pa_nil))) pa_nil)) (blkOk_by (own := [("_law_k", 2)]) (N := ["_law_pot_here", "_law_records", "_law_k", "_law_rows", "_law_record_here"]) (sc := defScope s_l_right) (by decide +kernel)) (fun _ _ _ _ _ => (pg_name (i := 2) sc_l_right.nd rfl (by first | exact Or.inl rfl | exact Or.inr rfl))) (fun _ _ _ _ _ => pts_nil) (fun _ _ _ _ _ => (pg_call (ok_l_record T) (hr.mono (by decide)) hg (by rfl) T.g_l_record T.F_l_record.kp T.b_l_record .nil pass0 (pa_cons (pv 0) pa_nil))))
    (pss_cons (ps_setLc (i := 3) (own := [("_law_record_here", 4)]) (by rfl) sc_l_right.nd rfl rfl (sw_true rfl rfl rfl (by decide +kernel)) (pi_list (pv 1)) (blkOk_by (own := [("_law_record_here", 4)]) (N := ["_law_pot_here", "_law_records", "_law_k", "_law_rows", "_law_record_here"]) (sc := defScope s_l_right) (by decide +kernel)) (fun _ _ _ _ _ => (pg_name (i := 4) sc_l_right.nd rfl (by first | exact Or.inl rfl | exact Or.inr rfl))) (fun _ _ _ _ _ => pts_nil) (fun _ _ _ _ _ => (pg_call (ok_sealed T) (hr.mono (by decide)) hg (by rfl) T.g_sealed T.F_sealed.kp T.b_sealed .nil passN (pa_cons (pv 4) pa_nil))))
    (pss_cons (ps_if (PW.pt (pw_or (pt_cmpR (op_neD hr.units) (pv 3) (pe_lc (own := [("_law_record_here", 4)]) (by rfl) sc_l_right.nd (pi_list (pv 1)) (blkOk_by (own := [("_law_record_here", 4)]) (N := ["_law_pot_here", "_law_records", "_law_k", "_law_rows", "_law_record_here"]) (sc := defScope s_l_right) (by decide +kernel)) (fun _ _ _ _ _ => (pg_name (i := 4) sc_l_right.nd rfl (by first | exact Or.inl rfl | exact Or.inr rfl))) (fun _ _ _ _ _ => pts_nil) (fun _ _ _ _ _ => (pg_call (ok_l_row T) (hr.mono (by decide)) hg (by rfl) T.g_l_row T.F_l_row.kp T.b_l_row .nil pass0 (pa_cons (pv 4) pa_nil)))) (nomark _)) (pw_or1 (pt_cmpR (op_neD hr.units) (pg_call (ok_whole_records T) (hr.mono (by decide)) hg (by rfl) T.g_whole_records T.F_whole_records.kp T.b_whole_records .nil passN (pa_cons (pe_bm PySem.F.plainAttrs_str PySem.F.slot_str_join PySem.F.type_str_join mt_join pe_str (pa_cons (pv 3) pa_nil)) pa_nil)) (pv 1) (nomark _))))) (pss_one (ps_ret pe_bl)) pss_nil)
    (pss_one (ps_ret (pg_call (ok_l_more_right T TB) (hr.mono (by decide)) hg (by rfl) T.g_l_more_right T.F_l_more_right.kp T.b_l_more_right .nil pass0 (pa_cons (pv 0) (pa_cons (pv 1) (pa_cons (pv 3) pa_nil))))))))), ?_⟩
    walk_at "st"
    repeat walk_at "rd"
    refine use_take hp (by omega) (by omega) (fun m H1 m0 m1 hp1 k1 => ?_)
    repeat walk_at "rd"
    refine ⟨by omega, by omega, u_lcR (fun R H0 hR sR eR nR => ?_)⟩
    have nRp : R ≠ p := hp1.neq hR
    refine ⟨fun i H' => ∃ rs : List (List Nat), rs.length = i ∧ H' R = some (.lst (rs.map fun l => V.str (mkS l))) ∧ (∀ l ∈ rs, RecL l) ∧ PotAt H' p ∧ LL.Fr (Tb K) [R, p] H0 H', ⟨[], rfl, eR, (fun x hx => nomatch hx), hp1.same sR, Fr.refl⟩, ?_, ?_⟩
    · rintro i H2 hi ⟨rs, hl, e2, hx, hp2, k2⟩
      repeat walk_at "rd"
      refine ⟨rfl, ?_⟩
      repeat walk_at "rd"
      refine ⟨p, rfl, hp2, fun z H3 rz hp3 k3 => ?_⟩
      have e3 := k3.at_ e2 trivial (by simpa using nRp)
      refine g_grow e3 (by rw [List.length_map]; omega) (fun H4 e4 ne4 => ?_)
      refine ⟨rs ++ [TL.tl z], by rw [List.length_append, hl]; rfl, by rw [e4, List.map_append]; simp only [List.map_cons, List.map_nil, mkS_tl], fun x hx2 => ?_, hp3.off nRp ne4, (k2.trans (k3.mono (by simp))).trans (.set e3 trivial (by simp) ne4)⟩
      rcases List.mem_append.mp hx2 with h | h
      · exact hx x h
      · rw [List.mem_singleton.mp h]; exact rz
    · rintro H2 ⟨rs, hl, e2, hs, hp2, k2⟩
      have f2 : LL.Fr (Tb K) [p] H H2 := Fr.step k1 hR ((Fr.same sR).trans k2)
      have lr : rs.length ≤ 10 := by omega
      clear hp1 k1 hR sR eR k2
      repeat walk_at "rd"
      refine u_lcL (xs := rs.map fun l => V.str (mkS l)) (fun W H3 hW s3 e3 _ => ⟨fun i H' => H' W = some (.lst ((rs.take i).map fun l => V.str (mkS (rowL l)))) ∧ Same H2 H', ⟨e3, s3⟩, fun i H' _ z => .inl (.inl (z.2 _ _ e2)), ?_, ?_⟩)
      · rintro i x H4 hx ⟨e4, s4⟩
        rw [List.getElem?_map] at hx
        obtain ⟨l, hl, rfl⟩ := Option.map_eq_some_iff.mp hx
        have hm := hs l (List.mem_of_getElem? hl)
        repeat walk_at "rd"
        refine ⟨rfl, ?_⟩
        repeat walk_at "rd"
        refine ⟨_, rfl, .inl ⟨mkS l, rfl, fun z => (hm.2 _ z).2 rfl, fun c hc => (hm.2 c hc).1, by rw [TL.len_tl, tl_mkS]; have := hm.1; omega, ?_⟩⟩
        refine g_grow e4 (by rw [List.length_map]; exact Nat.lt_of_le_of_lt (List.length_take_le' ..) (by omega)) (fun H5 e5 ne5 => ⟨?_, same_put s4 hW ne5⟩)
        rw [e5, List.take_add_one, hl, List.map_append]
        rfl
      · rintro H4 ⟨e4, s4⟩
        rw [List.length_map, List.take_length] at e4
        repeat walk_at "rd"
        refine q_itl (s4 _ _ e2) ?_
        refine u_lcL (xs := rs.map fun l => V.str (mkS l)) (fun W2 H5 hW2 s5 e5 _ => ⟨fun i H' => H' W2 = some (.lst ((rs.take i).map fun l => V.str (mkS (rowL l)))) ∧ Same H4 H', ⟨e5, s5⟩, fun i H' _ z => .inl (.inl (z.2 _ _ (s4 _ _ e2))), ?_, ?_⟩)
        · rintro i x H6 hx ⟨e6, s6⟩
          rw [List.getElem?_map] at hx
          obtain ⟨l, hl, rfl⟩ := Option.map_eq_some_iff.mp hx
          have hm := hs l (List.mem_of_getElem? hl)
          repeat walk_at "rd"
          refine ⟨rfl, ?_⟩
          repeat walk_at "rd"
          refine ⟨mkS l, rfl, fun c hc => (hm.2 c hc).1, by rw [TL.len_tl, tl_mkS]; have := hm.1; omega, ?_⟩
          refine g_grow e6 (by rw [List.length_map]; exact Nat.lt_of_le_of_lt (List.length_take_le' ..) (by omega)) (fun H7 e7 ne7 => ⟨?_, same_put s6 hW2 ne7⟩)
          rw [e7, List.take_add_one, hl, List.map_append]
          rfl
        · rintro H6 ⟨e6, s6⟩
          rw [List.length_map, List.take_length] at e6
          have er : (rs.map fun l => V.str (mkS (rowL l))) = ((rs.map rowL).map fun l => V.str (mkS l)) := by rw [List.map_map]; rfl
          have e46 := s6 _ _ e4
          refine r_neL (ls := rs.map rowL) (by rw [← er]; exact e46) (by rw [← er]; exact e6) (fun l hl => ?_) ?_
          · obtain ⟨l0, hl0, rfl⟩ := List.mem_map.mp hl
            exact asc_row fun c hc => ((hs l0 hl0).2 c hc).1
          repeat walk_at "rd"
          have sh := shorts_rows hs
          have sm := sum_short sh
          have lj := sh.len
          have tj := tl_rows rs
          rw [List.length_map] at sm lj
          refine ⟨_, W, _, rfl, rfl, .inl (.inl (.inl (by rw [e46, List.map_map]; rfl))), by rw [le0]; omega, ?_⟩
          repeat walk_at "rd"
          refine ⟨_, rfl, .inl ⟨_, rfl, sh.join, by omega, fun T H7 hT s7 e7 => ?_⟩⟩
          have ew := who_rows rs [] (fun r hr z => ((hs r hr).2 _ z).2 rfl)
          rw [List.append_nil, lns_nil (l := []) (fun h => nomatch h), show whoL [] = [] from rfl, List.append_nil] at ew
          rw [tj, ew] at e7
          have s27 := (s4.trans s6).trans s7
          repeat walk_at "rd"
          refine r_neL e7 (s27 _ _ e2) (fun l hl c hc => ((hs l hl).2 c hc).1) ?_
          repeat walk_at "rd"
          refine ⟨p, R, W, rs, rfl, ⟨hp2.same s27, s27 _ _ e2, s7 _ _ e46, nRp, hp2.neq hW, (f2.trans (.same s27)).tb tb, .refl⟩, lr, hs, fun H8 hp8 k8 => ?_⟩
          exact q _ ((f2.trans (.same s27)).trans k8)

end
/-- nothing but perhaps a table stands at d -/
def New (H : Hp) (d : Addr) : Prop := ∀ o, (∀ ps, o ≠ .tbl ps) → H d ≠ some o
theorem New.of {T : List (Addr × Str)} {S : List Addr} {H H' : Hp} {d : Addr} (k : LL.Fr T S H H') (hd : H' d = none) (nd : d ∉ S) : New H d := fun o no e => by
  have := k.kp d o nd no e
  rw [hd] at this
  cases this
theorem New.back {T : List (Addr × Str)} {S : List Addr} {H H' : Hp} {d : Addr} (k : LL.Fr T S H H') (hd : New H' d) (nd : d ∉ S) : New H d := fun o no e => hd o no (k.kp d o nd no e)
theorem Fr_new {T : List (Addr × Str)} {S : List Addr} {H H1 H2 : Hp} {d : Addr} (x : LL.Fr T S H H1) (n : New H d) (y : LL.Fr T (d :: S) H1 H2) : LL.Fr T S H H2 := ⟨fun b o hb nt e => y.kp b o (fun z => by
    rcases List.mem_cons.mp z with rfl | z
    · exact n o nt e
    · exact hb z) nt (x.kp b o hb nt e), fun t => y.tb (x.tb t)⟩

def sp_law (K : PySem.W.Frag) : Sp := fun vs H Q _ => ∃ a, ∃ ns : List Int, vs = [.ref a] ∧ SqL K H a (ns.map V.int) ∧ ns.length ≤ 63 ∧ Tabs (Tb K) H ∧ ∀ H', Q (.bl true) H'
theorem sql_fr {K : PySem.W.Frag} {T : List (Addr × Str)} {H H' : Hp} {a : Addr} {xs : List V} (h : SqL K H a xs) (f : LL.Fr T [] H H') : SqL K H' a xs := by
  rcases h with (h | ⟨o, h⟩) | h
  · exact .inl (.inl (f.kp _ _ (by simp) (by intro ps e; cases e) h))
  · exact .inl (.inr ⟨o, f.kp _ _ (by simp) (by intro ps e; cases e) h⟩)
  · exact .inr h

section
variable {P : Program} {w : World} {K : PySem.W.Frag} {mg : Str → Option Value} {base : Heap}
theorem sc_law : FnScope ["_law_script", "_law_k"] ["_law_script"] (defScope s_law) := ⟨rfl, rfl, rfl, by decide +kernel, rfl, by decide +kernel, by decide +kernel⟩
theorem ok_law (T : Tx K mg) (TB : ∀ q ∈ tabsIn K ftabs, TabB base mg q.1 q.2) : FnG P w K mg base CX0 true 11 (He.ga K "law") T.fd_law ["_law_script"] (sp_law K) := by
  refine funG T.F_law sc_law (fun vs H Q E h => ?_) (fun cdv A outer s H vs Q E hr hg h => ?_)
  · obtain ⟨a, ns, e, _⟩ := h; rw [e]; rfl
  · obtain ⟨a, ns, rfl, hs, hn, ht, k⟩ := h
    refine ⟨_, (pss_one (ps_ret (pe_callB (cr_all rfl) (by rfl) T.m_all (by decide +kernel) (pa_cons (pe_lc (own := [("_law_k", 1)]) (by rfl) sc_law.nd (pi_range1 (by rfl) T.m_range (pa_cons (pe_callB (call_max2 rfl) (by rfl) T.m_max (by decide +kernel) (pa_cons pe_int (pa_cons (pe_callB (call_min2 rfl) (by rfl) T.m_min (by decide +kernel) (pa_cons (pe_callB call_len (by rfl) T.m_len (by decide +kernel) (pa_cons (pv 0) pa_nil)) (pa_cons pe_int pa_nil))) pa_nil))) pa_nil)) (blkOk_by (own := [("_law_k", 1)]) (N := ["_law_script", "_law_k"]) (sc := defScope s_law) (by decide +kernel)) (fun _ _ _ _ _ => (pg_name (i := 1) sc_law.nd rfl (by first | exact Or.inl rfl | exact Or.inr rfl))) (fun _ _ _ _ _ => pts_nil) (fun _ _ _ _ _ => (pg_call (ok_l_right T TB) (hr.mono (by decide)) hg (by rfl) T.g_l_right T.F_l_right.kp T.b_l_right .nil pass0 (pa_cons (pg_call (ok_l_pot T) (hr.mono (by decide)) hg (by rfl) T.g_l_pot T.F_l_pot.kp T.b_l_pot .nil pass0 (pa_cons (pv 0) (pa_cons (pv 1) pa_nil))) pa_nil)))) pa_nil)))), ?_⟩
    walk_at "st"
    repeat walk_at "rd"
    refine q_lenL hs ?_
    repeat walk_at "rd"
    rw [List.length_map]
    obtain ⟨m, em⟩ : ∃ m : Int, m = (if (if (6 : Int) < ns.length then 6 else (ns.length : Int)) > 1 then (if (6 : Int) < ns.length then 6 else (ns.length : Int)) else 1) := ⟨_, rfl⟩
    rw [← em]
    have m8 : m ≤ 6 ∧ 0 ≤ m := by
      rw [em]
      split <;> split <;> omega
    clear em
    refine ⟨by omega, by omega, u_lcR (fun D H0 hD sD eD nD => ?_)⟩
    refine ⟨fun i H' => H' D = some (.lst ((List.replicate i true).map V.bl)) ∧ LL.Fr (Tb K) [] H H', ⟨eD, .same sD⟩, ?_, ?_⟩
    · rintro i H2 hi ⟨e2, f2⟩
      repeat walk_at "rd"
      refine ⟨rfl, ?_⟩
      repeat walk_at "rd"
      refine use_pot (sql_fr hs f2) (by omega) (by omega) (fun p H3 hp s3 pp => ?_)
      repeat walk_at "rd"
      have f3 := f2.trans (.same s3)
      refine ⟨p, rfl, pp, f3.tb ht, fun H4 k4 => ?_⟩
      have nDp : D ≠ p := ne_of_none e2 hp
      have e4 := k4.at_ (s3 _ _ e2) trivial (by simpa using nDp)
      have f4 : LL.Fr (Tb K) [] H H4 := (Fr_new f2 (d := p) (New.of f2 hp List.not_mem_nil) ((LL.Fr.same s3).trans k4 |>.mono (by simp)))
      refine g_grow e4 (by rw [List.length_map, List.length_replicate]; omega) (fun H5 e5 ne5 => ⟨by rw [e5, List.replicate_succ', List.map_append]; rfl, ?_⟩)
      exact Fr_new f4 (New.of (T := Tb K) (S := []) (.same (fun _ _ e => e)) hD List.not_mem_nil) (.set e4 trivial (by simp) ne5)
    · rintro H2 ⟨e2, s2⟩
      repeat walk_at "rd"
      refine r_all (.inl (.inl e2)) ?_
      rw [show (List.replicate m.toNat true).all id = true from by rw [List.all_replicate]; simp]
      exact k _

end
end K75
open PySem PySem.W PySem.Calls PyProof.Rows
set_option maxRecDepth 100000 in
set_option maxHeartbeats 0 in
theorem PySem.Challenge.cw_leastlog_k75_sealed_rows_holds : PySem.Challenge.rw_leastlog_k75_sealed_rows.Holds := by
  w_on; o_law
  refine LL.head_imp (r := OpenLaw.row PySem.Challenge.rw_leastlog_k75_sealed_rows) (q := view (OpenLaw.row PySem.Challenge.rw_leastlog_k75_sealed_rows).prog [27]) (H := K75.hk) (ob := K75.ob) (N := 6000) (M := 6000) (loose := K75.loose)
    (d := HandSHeadRun.topDef (OpenLaw.row PySem.Challenge.rw_leastlog_k75_sealed_rows).prog 27) (kwd := []) K75.ob_eq (by decide +kernel) K75.run
    (by kernel_rfl) (by kernel_rfl) (by kernel_rfl) (by rfl) (by first | assumption | decide +kernel) (by decide +kernel) ⟨rfl, rfl, rfl, rfl, rfl, by decide +kernel⟩ ?hw ?hc
  case hw => w_witness2
  case hc =>
    refine LL.walk_gT (g := true) (l := PySem.Challenge.rw_leastlog_k75_sealed_rows) (n := 63) (k := 11) (x := "_law_script") (CX := fun _ => L2.CX0) rfl (by decide) (by kernel_rfl) ⟨rfl, by decide, by decide⟩ ?F (fun _ _ _ _ _ z => z)
    intro w mg fa h Y XX G hmg0
    obtain ⟨K, KX, c, x, tt⟩ := Y
    have hmg : mg ("law" : PySem.Str) = some (.ref fa) := by
      have e : (HandSHeadRun.topDef (OpenLaw.row PySem.Challenge.rw_leastlog_k75_sealed_rows).prog 27).name = ("law" : PySem.Str) := by kernel_rfl
      rw [← e]
      exact hmg0
    obtain ⟨T, _⟩ := K75.tx_of KX G XX c x tt
    have e := hmg.symm.trans T.g_law
    cases e
    exact ⟨K, T.fd_law, K75.sp_law K, LL.tabsIn K K75.ftabs, KX, LL.tabs_ok tt, fun s v => L2.FunD.bindsA (ps := ["_law_script"]) T.F_law (fun _ _ _ _ _ _ us hl => match us, hl with | [_], _ => rfl) s [v] rfl, fun H a ns hl hT hS => ⟨a, ns, rfl, hS, hl, LL.tabs_start hT, fun _ => rfl⟩, fun base _ _ TB => K75.ok_law T TB⟩
