import PyProof.Rows.All
import Wide.All
import OpenK.AllK
import Wide.FinOn
import HandS.ForMost
import HandS.Flow
import HandS.Property
import HandS.OwnEq
import HandS.Wide
import HandS.WideMore
import HandS.Gcd
import HandS.FStr
import HandS.Zip
import HandS.IsInst
import HandS.Defaults
import HandS.HeadHook2
import HandS.HeadEnd
import HandS.HeadNt
import HandS.Head2
import HandS.RaiseMore
import HandS.Lambda
import HandS.EndTab
import HandS.ExcInit
import HandS.ExcField
import HandS.ExcIs
import HandS.TryMany
import HandS.ExcOwn
import HandS.HeadWalk
import KE.KNestM
import HandS.Text
import PySem.Challenge.RW_leastlog_k76_disks
set_option Elab.async false
set_option linter.all false
set_option maxRecDepth 100000
set_option maxHeartbeats 8000000
/-! LL: rules of our own over the hand layer: defs that know that no repr is under way (FnG), operators, ==, repr, str of an own class. -/
namespace LL
open PySem PySem.Spec PyProof.Rows L2

/-- nothing guarded is under way (where g asks for it) -/
def Clr (g : Bool) (A : Around) : Prop := g = true → A.guards = some []
theorem clr_no {A : Around} : Clr false A := fun h => nomatch h
theorem Clr.to {g' g : Bool} {A : Around} (c : Clr g A) (h : g' = true → g = true) : Clr g' A := fun e => c (h e)
theorem clr_deeper {g : Bool} {A : Around} {env : Env} (c : Clr g A) : Clr g (A.deeper env) := fun e => by
  have h := c e
  first | exact h | (simpa [Around.deeper, Around.under, pushGuards] using h)
theorem clr_in1 {g : Bool} {A : Around} (c : Clr g A) : Clr g A.in1 := fun e => by
  have h := c e
  first | exact h | (simpa [Around.in1] using h)
theorem clr_make {g : Bool} {A : Around} {C : Addr} {us : List Value} {kw : List (Str × Value)} (c : Clr g A) : Clr g (A.under (.builtin "type.__call__" ⟨.ref C :: us, kw⟩)) := fun e => by
  have h := c e
  have z : (Code.builtin "type.__call__" ⟨.ref C :: us, kw⟩).isGuard = false := by show guardIds.contains "type.__call__" = false; decide +kernel
  simp only [Around.under, Code.guards, z, Bool.false_eq_true, if_false, pushGuards]
  exact h

/-- a def's promise, for calls where (if g) nothing guarded is under way -/
structure FnG (P : Program) (w : World) (K : PySem.W.Frag) (mg : Str → Option Value) (base : Heap) (CX : CXT) (g : Bool) (k : Nat) (f : Addr) (fd : FuncData) (ps : List Str) (sp : Sp) : Prop where
  len : ∀ vs H Q E, sp vs H Q E → vs.length = ps.length
  run : ∀ (A : Around) (outer : List Env) (s : Shared) (H : Hp) (args : Args) (us : List Value) (vs : List V) (Q : VK) (E : XK), Room k A → Clr g A → Env0 P w K mg base A outer s H →
    BindsTo s fd args (ps.zip us) → Vals vs us → sp vs H Q E → codeAny (model P w) A (.call (.ref f) args) (CR CX outer P w H s Q E) s
section
variable {P : Program} {w : World} {K : PySem.W.Frag} {mg : Str → Option Value} {base : Heap} {CX : CXT} {g : Bool} {j k : Nat} {f : Addr} {fd : FuncData} {ps : List Str} {sp sp' : Sp}
theorem FnG.mono (F : FnG P w K mg base CX g j f fd ps sp) (h : j ≤ k) : FnG P w K mg base CX g k f fd ps sp :=
  ⟨F.len, fun A outer s H args us vs Q E hr => F.run A outer s H args us vs Q E (hr.mono h)⟩
theorem FnG.imp (F : FnG P w K mg base CX g k f fd ps sp) (h : ∀ vs H Q E, sp' vs H Q E → sp vs H Q E) : FnG P w K mg base CX g k f fd ps sp' :=
  ⟨fun vs H Q E q => F.len vs H Q E (h _ _ _ _ q), fun A outer s H args us vs Q E hr hg he hb hv q => F.run A outer s H args us vs Q E hr hg he hb hv (h _ _ _ _ q)⟩
theorem ok_g (F : FnOk P w K mg base CX k f fd ps sp) : FnG P w K mg base CX g k f fd ps sp :=
  ⟨F.len, fun A outer s H args us vs Q E hr _ => F.run A outer s H args us vs Q E hr⟩
theorem g_ok (F : FnG P w K mg base CX false k f fd ps sp) : FnOk P w K mg base CX k f fd ps sp :=
  ⟨F.len, fun A outer s H args us vs Q E hr => F.run A outer s H args us vs Q E hr clr_no⟩
/-- two promises that are both kept -/
theorem FnG.both (F : FnG P w K mg base CX g k f fd ps sp) (F' : FnG P w K mg base CX g k f fd ps sp') : FnG P w K mg base CX g k f fd ps (fun vs H Q E => sp vs H Q E ∨ sp' vs H Q E) :=
  ⟨fun vs H Q E q => q.elim (F.len vs H Q E) (F'.len vs H Q E), fun A outer s H args us vs Q E hr hg he hb hv q => q.elim (F.run A outer s H args us vs Q E hr hg he hb hv) (F'.run A outer s H args us vs Q E hr hg he hb hv)⟩

/-- a def by its body -/
theorem fnG_of {name qual : Str} {params : Arguments} {body : List Stmt} {scope : Scope} {dV kV doc pm cdv ct oc : Value} {an od : Option Addr} {osl : Array (Option Value)} {N : List Str}
    (lk : K.lookup f = some ⟨oc, od, .func (PySem.W.fnOf name qual params body scope dV kV doc pm an cdv ct), osl⟩) (hcd : PySem.W.codeIn K cdv qual = true) (S : FnScope N ps scope)
    (len : ∀ vs H Q E, sp vs H Q E → vs.length = ps.length)
    (hb : ∀ (A : Around) (outer : List Env) (s : Shared) (H : Hp) (vs : List V) (Q : VK) (E : XK), Room k (A.deeper (envOfC qual scope s.heap.objs.size f cdv)) → Clr g (A.deeper (envOfC qual scope s.heap.objs.size f cdv)) → sp vs H Q E →
      ∃ t, PSs (cxOf CX P w K mg base N qual scope f cdv A outer s H E) body t ∧ t { nx := fun _ H' => Q .non H', rt := Q } (start N vs) H) :
    FnG P w K mg base CX g (k + 1) f (PySem.W.fnOf name qual params body scope dV kV doc pm an cdv ct) ps sp := by
  constructor
  · exact len
  intro A outer s H args us vs Q E room clr e0 bnd rel want
  have L := len _ _ _ _ want
  have kin : K.In s.heap := e0.mod.kin.keeps (fun b o e => (e0.bs b o e).1)
  have nolim : s.heap.NoLimit := e0.mod.nolimit.keeps (fun b o e => (e0.bs b o e).1)
  have kinds : ∀ y ∈ ps.zip us, scope.names.lookup y.1 = some .local ∨ (scope.names.lookup y.1 = some .cell ∧ ((cellsFrom (s.heap.objs.size + 1) scope.names []).lookup y.1).isSome = true) := by
    rintro ⟨n, v⟩ hy
    have hp := S.par n (List.of_mem_zip hy).1
    exact hp.imp id fun q => ⟨q, PySem.W.cellsFrom_some _ _ _ (.inl q)⟩
  refine codeAny_call_function room.depth (kin _ _ lk) rfl S.co S.gen rfl (PySem.W.codeRec_of kin hcd) (bnd _ _ _ _ (wpAny_newFunctionEnv_cells S.kind kinds fun env he s1 x => ?_))
  cases he
  obtain ⟨t, ht, hq⟩ := hb A outer s H vs Q E (room.deeper _) (clr_deeper clr) want
  refine ⟨nolim.keeps x.toInCall.keep, codeAny_func (wpAny_mono (ht.run [] s1 (start N vs) H _ (inv_start S room.hd e0 L rel x) hq) (fun fl s' hs => ?_) (fun e s' z => z))⟩
  cases fl with
  | ret u => obtain ⟨v, σ', H', J, rv, q⟩ := hs; exact ⟨v, H', J.os, J.bare, J.base, J.hok, rv, q⟩
  | next => obtain ⟨σ', H', J, q⟩ := hs; exact ⟨.non, H', J.os, J.bare, J.base, J.hok, rfl, q⟩
  | brk => obtain ⟨_, _, _, q⟩ := hs; exact q.elim
  | cont => obtain ⟨_, _, _, q⟩ := hs; exact q.elim
end
section
variable {P : Program} {w : World} {K : PySem.W.Frag} {mg : Str → Option Value} {base : Heap} {g : Bool} {k : Nat} {f : Addr} {fd : FuncData} {ps N : List Str} {sp : Sp} {x qual : Str} {st : Stmt} {args : Arguments} {body : List Stmt} {sc : Scope} {dvs : List V} {kws : List (Str × V)}
/-- a def of the text, from which no exception goes -/
theorem funG (F : FunD K x qual args body sc dvs kws f fd) (S : FnScope N ps sc) (len : ∀ vs H Q E, sp vs H Q E → vs.length = ps.length)
    (hb : ∀ (cdv : Value) (A : Around) (outer : List Env) (s : Shared) (H : Hp) (vs : List V) (Q : VK) (E : XK), Room k (A.deeper (envOfC qual sc s.heap.objs.size f cdv)) → Clr g (A.deeper (envOfC qual sc s.heap.objs.size f cdv)) → sp vs H Q E →
      ∃ t, PSs (cxOf CX0 P w K mg base N qual sc f cdv A outer s H E).nox body t ∧ t { nx := fun _ H' => Q .non H', rt := Q } (start N vs) H) : FnG P w K mg base CX0 g (k + 1) f fd ps sp := by
  obtain ⟨oc, od, dV, kV, doc, pm, an, cdv, ct, osl, e, lk, hcd, _⟩ := F.ex
  subst e
  refine fnG_of lk hcd S len ?_
  intro A outer s H vs Q E hr hg q
  obtain ⟨t, h1, h2⟩ := hb cdv A outer s H vs Q E hr hg q
  exact ⟨t, h1.nox, h2⟩
end

section
variable {X : Cx} {CX : CXT} {g : Bool} {k : Nat} {f C : Addr} {fd : FuncData} {ps : List Str} {sp : Sp} {dvs : List V} {ds : List Value} {E : XK} {x m : Str} {p pos apos : Pos} {e o : Expr} {es : List Expr} {ta : TE} {t : TA}
/-- the callee runs -/
theorem run_g {pins : List (Addr × Obj)} {σ : L2.St} {H : Hp} {s : Shared} {Q : VK} {us : List Value} {vs : List V} {A : Around} {E' : Value → Shared → Prop} (F : FnG X.prog X.w X.K X.mg X.base CX g k f fd ps sp) (hr : Room k A) (hg : Clr g A) (hA : A.frames = X.A.frames) (hb : Binds X.K fd ps ds)
    (hd : Vals dvs ds) (hx : Passes CX (X.wish E') E) (I : Inv X pins σ H s) (r : Vals vs us) (h : sp (vs ++ dvs) H Q E) : wpAny (model X.prog X.w) A (call (.ref f) us) (EP X pins σ Q) E' s := by
  have r2 : Vals (vs ++ dvs) (us ++ ds) := r.append hd
  have e0 := I.env0
  have e1 : Env0 X.prog X.w X.K X.mg X.base A X.stack s H := ⟨hA.trans e0.frames, e0.mod, e0.bs, e0.bsz, e0.funs, e0.frf, e0.hok, e0.bare⟩
  have hl : (us ++ ds).length = ps.length := r2.length.symm.trans (F.len _ _ _ _ h)
  refine wpAny_call (codeAny_mono (F.run A X.stack s H ⟨us, []⟩ _ _ Q E hr hg e1 (hb s us I.kIn hl) r2 h) (fun res s' q => ?_))
  match res, q with
  | .error er, q => exact hx pins σ H s er s' (I.wish _) q
  | .ok (.ret u), q => exact I.after q
  | .ok .next, q => exact q.elim
  | .ok .brk, q => exact q.elim
  | .ok .cont, q => exact q.elim
theorem run_gX {pins : List (Addr × Obj)} {σ : L2.St} {H : Hp} {s : Shared} {Q : VK} {us : List Value} {vs : List V} (F : FnG X.prog X.w X.K X.mg X.base CX g k f fd ps sp) (hr : Room k X.A) (hg : Clr g X.A) (hb : Binds X.K fd ps ds)
    (hd : Vals dvs ds) (hx : Passes CX X E) (I : Inv X pins σ H s) (r : Vals vs us) (h : sp (vs ++ dvs) H Q E) : wpAny (model X.prog X.w) X.A (call (.ref f) us) (EP X pins σ Q) X.xe s :=
  run_g (E' := X.xe) F hr hg rfl hb hd hx I r h

/-- f(a, ..) -/
theorem pg_call (F : FnG X.prog X.w X.K X.mg X.base CX g k f fd ps sp) (hr : Room k X.A) (hg : Clr g X.A) (hgl : Gl X x) (hm : X.mg x = some (.ref f)) (hk : PySem.W.keepIn X.K (.ref f) = true) (hb : Binds X.K fd ps ds) (hd : Vals dvs ds)
    (hx : Passes CX X E) (ha : PA X (e :: es) t)
    (hdb : (x == ("__debug__" : Str)) = false := by decide) (he : starEach (e :: es) X.env = (false, eval e X.env) :: starEach es X.env := by rfl)
    (hpl : (backTo pos (starEach es X.env)).any (·.1) = false := by rfl) : PE X (.Call (.Name x p) (e :: es) [] pos) (tCall sp dvs E t) := by
  constructor
  intro pins s σ H Q I h
  refine wpAny_Call_Name_kw (ld_glob I hgl hm ?_ hdb)
  refine PySem.W.callWith_K (h₀ := X.base) I.ok.mod.kin hk (thn (ha.run pos pins s σ H _ I h) ?_) he hpl
  rintro us s1 ⟨vs, H1, I1, r, q⟩
  exact ⟨I1.kIn, run_gX F hr hg hb hd hx I1 r q⟩
/-- f() -/
theorem pg_call0 (F : FnG X.prog X.w X.K X.mg X.base CX g k f fd ps sp) (hr : Room k X.A) (hg : Clr g X.A) (hgl : Gl X x) (hm : X.mg x = some (.ref f)) (hk : PySem.W.keepIn X.K (.ref f) = true) (hb : Binds X.K fd ps ds) (hd : Vals dvs ds)
    (hx : Passes CX X E) (hdb : (x == ("__debug__" : Str)) = false := by decide) : PE X (.Call (.Name x p) [] [] pos) (tCall sp dvs E tNil) := by
  constructor
  intro pins s σ H Q I h
  exact wpAny_Call_Name_kw (ld_glob I hgl hm (PySem.W.callWith_K0 I.kIn hk (run_gX (us := []) F hr hg hb hd hx I .nil h)) hdb)
/-- o.m(a, ..) -/
theorem pg_meth {pl : Sem Bool} (he : PE X o ta) (c : Cls X.K C) (hm : Meth X.K C m f) (F : FnG X.prog X.w X.K X.mg X.base CX g k f fd ps sp) (hr : Room k X.A) (hg : Clr g X.A) (hb : Binds X.K fd ps ds) (hd : Vals dvs ds)
    (hx : Passes CX X E) (ha : PA X (e :: es) t)
    (hst : starEach (e :: es) X.env = (false, eval e X.env) :: starEach es X.env := by rfl) (hpl : (backTo pos (starEach es X.env)).any (·.1) = false := by rfl)
    (ht : eval (.Call (.Attribute o m apos) (e :: es) [] pos) X.env = (do let ov ← eval o X.env; standAt apos.atName; let (f, first) ← holding [ov] (getMethod ov m pl); callWith pos f first (backTo pos (starEach (e :: es) X.env)) (backToKw pos (keywordEach [] X.env))) := by rfl) :
    PE X (.Call (.Attribute o m apos) (e :: es) [] pos) (tMeth C m sp dvs E ta t) := by
  constructor
  intro pins s σ H Q I h
  refine PySem.W.methodCall_KW (pl := pl) (thn (he.run pins s σ H _ I h) ?_) ht
  rintro u s1 ⟨y, H1, I1, ry, a, dx, fs, ey, ea, l, q⟩
  subst ey
  obtain rfl : u = Value.ref a := ry
  refine getmeth_ok I1 ea c hm l (PySem.W.callWith_K (first := [.ref a]) (h₀ := X.base) I.ok.mod.kin hm.kp (thn (ha.run pos pins s1 σ H1 _ I1 q) ?_) hst hpl)
  rintro us s2 ⟨vs, H2, I2, r, q2⟩
  exact ⟨I2.kIn, run_gX (us := .ref a :: us) (vs := .ref a :: vs) F hr hg hb hd hx I2 (.cons rfl r) q2⟩
/-- a property of an own class: the getter's promise -/
theorem pg_prop {f : Str} {pp ge : Addr} (he : PE X e ta) (c : Cls X.K C) (hp : PropOf X.K C f pp ge) (F : FnG X.prog X.w X.K X.mg X.base CX g k ge fd ps sp) (hr : Room (k + 1) X.A) (hg : Clr g X.A) (hb : Binds X.K fd ps ds) (hd : Vals dvs ds)
    (hx : Passes CX X.nox E) (hab : attributeBase e f X.env (eval e X.env) = eval e X.env) : PE X (.Attribute e f pos) (tProp C sp dvs E ta) := by
  constructor
  intro pins s σ H Q I h
  refine attr_of hab (thn (he.run pins s σ H _ I h) ?_)
  rintro u s1 ⟨y, H1, I1, ry, a, dx, fs, ey, ea, q⟩
  subst ey
  obtain rfl : u = Value.ref a := ry
  obtain ⟨mA, O, _⟩ := ins_get I1.hok ea
  obtain ⟨od, J, _⟩ := O.look
  obtain ⟨rest, hrec⟩ := hp.rec_
  have hc : (PySem.W.clsIn X.K C).isSome = true := by
    obtain ⟨cd, z, _⟩ := PySem.W.any_some c.hd
    rw [z]; rfl
  refine PySem.W.get_bind I1.kIn J (PySem.W.plainGet_of (c.get f)).1 (PySem.W.findObj_data hc hp.at_ hp.get hp.tak) (PySem.W.plainGet_of (c.get f)).2 (wpAny_call (PySem.W.prop_get (s := { s1 with toks := s1.toks + 1 }) I1.kIn hrec ?_))
  have I2 := I1.tok (s1.toks + 1)
  have e0 := I2.env0.in1
  have r2 : Vals (V.ref a :: dvs) (Value.ref a :: ds) := .cons rfl hd
  have hl : ([Value.ref a] ++ ds).length = ps.length := r2.length.symm.trans (F.len _ _ _ _ q)
  refine codeAny_mono (F.run X.A.in1 X.stack { s1 with toks := s1.toks + 1 } H1 ⟨[.ref a], []⟩ _ _ Q E hr.in1 (clr_in1 hg) e0 (hb _ [.ref a] I2.kIn hl) r2 q) (fun res s' q2 => ?_)
  match res, q2 with
  | .error er, q2 => exact False.elim (hx pins σ H1 { s1 with toks := s1.toks + 1 } er s' (I2.wish _) q2)
  | .ok (.ret u), q2 =>
    obtain ⟨v, H', I3, rv, q3⟩ := I2.after q2
    show wpAny _ _ (handedOut u) _ _ _
    rw [PySem.W.handedOut_of (handed_of rv)]
    exact wpAny_pure ⟨v, H', I3, rv, q3⟩
  | .ok .next, q2 => exact q2.elim
  | .ok .brk, q2 => exact q2.elim
  | .ok .cont, q2 => exact q2.elim
end
end LL
/-! LL2: operators, ==, !=, repr, str of an own class. -/
namespace LL
open PySem PySem.Spec PyProof.Rows L2

theorem not_ni {z : V} {v : Value} {Q : Value → Shared → Prop} {s' : Shared} (r : RelV z v) (h : Q v s') : PySem.W.CmpBack Q v s' := by
  cases z <;> first | (cases r; exact h) | (obtain ⟨t, e⟩ := r; cases e; exact h)
/-- an instance that H tracks -/
def InsAt (C : Addr) (H : Hp) (a : Addr) : Prop := ∃ dx fs, H a = some (.ins C dx fs)
/-- a value of a built-in type without an address -/
def plT : V → Option String
  | .non => some "NoneType"
  | .bl _ => some "bool"
  | .int _ => some "int"
  | .str _ => some "str"
  | _ => none
theorem plT_of {y : V} {u : Value} {T : String} (r : RelV y u) (h : plT y = some T) : typeOf u = pure (.type T) := by
  cases y with
  | non => cases r; cases h; rfl
  | bl b => cases r; cases h; rfl
  | int i => obtain ⟨t, e⟩ := r; cases e; cases h; rfl
  | str x => obtain ⟨t, e⟩ := r; cases e; cases h; rfl
  | byt x => cases h
  | flt x => cases h
  | ref x => cases h
  | ty x => cases h

section
variable {X : Cx} {pins : List (Addr × Obj)} {σ : L2.St} {H : Hp} {s : Shared} {C a dx : Addr} {fs : List (Str × V)}
theorem inst_of (I : Inv X pins σ H s) (ea : H a = some (.ins C dx fs)) : ∃ ox od, PySem.W.InstAt s.heap a ox C (some od) := by
  obtain ⟨mA, O, _⟩ := ins_get I.hok ea
  obtain ⟨od, J, _⟩ := O.look
  exact ⟨_, od, J⟩
end

/-- C has the operator's method nm as the def at f, and no other way leads past it for values of the types Ts at the right -/
structure OpOwn (K : PySem.W.Frag) (C : Addr) (nm : String) (f : Addr) (Ts : List String) : Prop where
  first : PySem.W.selfFirst K C = true
  at_ : PySem.W.findIn K (.ref C) (PySem.dunder nm) = some (some (.ref f))
  fn : PySem.W.isFn K (.ref f) = true
  refl : PySem.W.findIn K (.ref C) (dunderR nm) = some none
  ts : ∀ T ∈ Ts, (∃ fo, PySem.W.findIn K (.type T) (PySem.dunder nm) = some fo) ∧ (∃ ro, PySem.W.findIn K (.type T) (dunderR nm) = some ro) ∧ PySem.W.subIn K (.type T) (.ref C) = some false
/-- x op y by the method: y an instance of the same class, or a value of one of the types -/
def rOpOwn (C : Addr) (Ts : List String) (sp : Sp) (E : XK) : R2 := fun x y H Q => ∃ a, x = .ref a ∧ InsAt C H a ∧ ((∃ b, y = .ref b ∧ InsAt C H b) ∨ ∃ T, plT y = some T ∧ T ∈ Ts) ∧ sp [x, y] H Q E

section
variable {X : Cx} {CX : CXT} {g : Bool} {k : Nat} {f C : Addr} {fd : FuncData} {ps : List Str} {sp : Sp} {E : XK} {Ts : List String}
theorem op_own {op : Operator} (O : OpOwn X.K C op.info.2 f Ts) (F : FnG X.prog X.w X.K X.mg X.base CX g k f fd ps sp) (hr : Room k X.A) (hg : Clr g X.A) (hb : Binds X.K fd ps []) (hx : Passes CX X E) : OpR X (binaryOp op) (rOpOwn C Ts sp E) := by
  intro pins s σ H x y v u Q I rx ry h
  obtain ⟨a, rfl, ⟨dx, fs, ea⟩, hy, q⟩ := h
  obtain rfl : v = Value.ref a := rx
  obtain ⟨ox, od, J⟩ := inst_of I ea
  obtain ⟨m, Fr0⟩ := I.fr
  have body : wpAny (model X.prog X.w) X.A (call (.ref f) [.ref a, u]) (PySem.W.CmpBack (EP X pins σ Q)) X.xe s :=
    wpAny_mono (run_gX (us := [.ref a, u]) (vs := [.ref a, y]) (dvs := []) F hr hg hb .nil hx I (.cons rfl (.cons ry .nil)) q) (fun w s' z => by
      obtain ⟨z1, H', I', r', q'⟩ := z
      exact not_ni r' ⟨z1, H', I', r', q'⟩) fun _ _ z => z
  rcases hy with ⟨b, rfl, dy, gs, eb⟩ | ⟨T, hT, hm⟩
  · obtain rfl : u = Value.ref b := ry
    obtain ⟨oy, od2, J2⟩ := inst_of I eb
    exact PySem.W.binop_K Fr0 I.ok.mod.kin J J2.type O.first O.at_ O.fn body
  · obtain ⟨⟨fo, h1⟩, ⟨ro, h2⟩, h3⟩ := O.ts T hm
    exact PySem.W.ksp_binT Fr0 I.ok.mod.kin J (plT_of ry hT) O.first O.at_ O.fn O.refl (.inl rfl) h1 h2 h3 body

/-- -x -/
structure UnOwn (K : PySem.W.Frag) (C : Addr) (nm : Str) (f : Addr) : Prop where
  at_ : PySem.W.findIn K (.ref C) nm = some (some (.ref f))
  fn : PySem.W.isFn K (.ref f) = true
def rUnOwn (C : Addr) (sp : Sp) (E : XK) : V → Hp → VK → Prop := fun x H Q => ∃ a, x = .ref a ∧ InsAt C H a ∧ sp [x] H Q E
theorem un_own (O : UnOwn X.K C "__neg__" f) (F : FnG X.prog X.w X.K X.mg X.base CX g k f fd ps sp) (hr : Room k X.A) (hg : Clr g X.A) (hb : Binds X.K fd ps []) (hx : Passes CX X E) : UnR X (unaryOp .USub) (rUnOwn C sp E) := by
  intro pins s σ H x v Q I rx h
  obtain ⟨a, rfl, ⟨dx, fs, ea⟩, q⟩ := h
  obtain rfl : v = Value.ref a := rx
  obtain ⟨ox, od, J⟩ := inst_of I ea
  obtain ⟨m, Fr0⟩ := I.fr
  exact PySem.W.ksp_neg Fr0 I.ok.mod.kin J O.at_ O.fn (run_gX (us := [.ref a]) (vs := [.ref a]) (dvs := []) F hr hg hb .nil hx I (.cons rfl .nil) q)

/-- x == y by the own __eq__ -/
structure EqOwn (K : PySem.W.Frag) (C f : Addr) (Ts : List String) : Prop where
  at_ : PySem.W.findIn K (.ref C) "__eq__" = some (some (.ref f))
  fn : PySem.W.isFn K (.ref f) = true
  ts : ∀ T ∈ Ts, PySem.W.notFirst K C (.type T) = true
theorem op_eqOwn (O : EqOwn X.K C f Ts) (F : FnG X.prog X.w X.K X.mg X.base CX g k f fd ps sp) (hr : Room k X.A) (hg : Clr g X.A) (hb : Binds X.K fd ps []) (hx : Passes CX X E) : OpR X (compareOp .Eq) (rOpOwn C Ts sp E) := by
  intro pins s σ H x y v u Q I rx ry h
  obtain ⟨a, rfl, ⟨dx, fs, ea⟩, hy, q⟩ := h
  obtain rfl : v = Value.ref a := rx
  obtain ⟨ox, od, J⟩ := inst_of I ea
  obtain ⟨m, Fr0⟩ := I.fr
  have body : wpAny (model X.prog X.w) X.A (call (.ref f) [.ref a, u]) (PySem.W.CmpBack (EP X pins σ Q)) X.xe s :=
    wpAny_mono (run_gX (us := [.ref a, u]) (vs := [.ref a, y]) (dvs := []) F hr hg hb .nil hx I (.cons rfl (.cons ry .nil)) q) (fun w s' z => by
      obtain ⟨z1, H', I', r', q'⟩ := z
      exact not_ni r' ⟨z1, H', I', r', q'⟩) fun _ _ z => z
  show wpAny (model X.prog X.w) X.A (richCompare .Eq (.ref a) u) (EP X pins σ Q) X.xe s
  rcases hy with ⟨b, rfl, dy, gs, eb⟩ | ⟨T, hT, hm⟩
  · obtain rfl : u = Value.ref b := ry
    obtain ⟨oy, od2, J2⟩ := inst_of I eb
    exact PySem.W.cmp_K hr.units0 Fr0 I.ok.mod.kin J J2.type (by show (Value.ref C == Value.ref C || _) = true; rw [beq_self_eq_true, Bool.true_or]) O.at_ O.fn body
  · exact PySem.W.cmp_K hr.units0 Fr0 I.ok.mod.kin J (PySem.W.Looks.of_pure (plT_of ry hT)) (O.ts T hm) O.at_ O.fn body
end

/-! ### != where the class has an own __eq__ and object's __ne__ -/
section
open PySem.W
variable {prog : Program} {w : World} {M : Model} {A : Around} {E : Value → Shared → Prop} {s : Shared} {K : Frag} {x C f : Addr} {ox : Obj} {od : Option Obj} {b tb : Value}
theorem bound_b {name : Str} {id : String} {args : List Value} {Q : Option Value → Shared → Prop} (X : K.In s.heap) (I : PySem.W.InstAt s.heap x ox C od) (hs : findIn K (.ref C) name = some (some (.builtin id)))
    (hb : ∀ self, bindSpecial (.builtin id) self = pure (.builtin id, [self])) (h : wpAny M A (call (.builtin id) (.ref x :: args)) (fun v => Q (some v)) E s) : wpAny M A (callSpecialIfBound? (.ref x) name args) Q E s := by
  have fin : wpAny M A (call (.builtin id) ([.ref x] ++ args) >>= fun v => pure (some v)) Q E s := wpAny_bind (wpAny_mono h (fun _ _ z => wpAny_pure z) fun _ _ z => z)
  unfold callSpecialIfBound? bindSpecialIfBound?
  refine wpAny_holding (wpAny_bind (wpAny_bind (wpAny_bind (I.type.here ((looks_findIn X hs).here ?_)))))
  refine wpAny_bind (wpAny_askSetting (wpAny_ite ?_))
  split
  · exact wpAny_bind ((Looks.of_pure (hb _)).here (wpAny_pure (by exact fin)))
  · exact wpAny_tryCatch (wpAny_bind ((Looks.of_pure (hb _)).here (wpAny_pure (by exact fin))))
open Builtin in
theorem obj_ne {Q : Value → Shared → Prop} (hu : A.in1.units < cLine) (X : K.In s.heap) (I : PySem.W.InstAt s.heap x ox C od) (hm : mroIn K C (.type "object") = some true) (hs : findIn K (.ref C) "__eq__" = some (some (.ref f)))
    (hf : isFn K (.ref f) = true) (h : wpAny (model prog w) A.in1 (call (.ref f) [.ref x, b]) (fun v s' => ∃ c, v = .bool c ∧ Q (.bool (!c)) s') E s) : wpAny (model prog w) A (call (.builtin "object.__ne__") [.ref x, b]) Q E s := by
  refine wpAny_call (codeAny_call_builtin PySem.F.cmp_object.ne.plain PySem.F.cmpEntry_ne (check_slot (i := "object.__ne__") (owner := "object") (n := "__ne__") (by decide +kernel) (by decide +kernel) (I.type.andThen (looks_mroIn X hm)) (PySem.F.cmpArgs_ne _ _) ?_))
  unfold Builtin.«object.__ne__»
  refine wpAny_bind (m := slotArgs "__ne__" 1 _) (wpAny_pure ?_)
  refine wpAny_bind (m := cRoomFor _ _) (wpAny_cRoomFor hu ?_)
  refine wpAny_bind (m := callSpecialIfBound? (.ref x) (Str.ofString "__eq__") _) (ifBound_K X I hs hf (wpAny_mono h (fun r s' hq => ?_) fun _ _ y => y))
  obtain ⟨c, rfl, q⟩ := hq
  exact wpAny_bind (wpAny_truthy_bool (wpAny_pure q))
theorem ne_K {Q : Value → Shared → Prop} (hu : A.in1.units < cLine) (X : K.In s.heap) (I : PySem.W.InstAt s.heap x ox C od) (hb : Looks (model prog w) s.heap (typeOf b) tb) (hn : notFirst K C tb = true)
    (hm : mroIn K C (.type "object") = some true) (h2 : findIn K (.ref C) "__ne__" = some (some (.builtin "object.__ne__"))) (hs : findIn K (.ref C) "__eq__" = some (some (.ref f))) (hf : isFn K (.ref f) = true)
    (h : wpAny (model prog w) A.in1 (call (.ref f) [.ref x, b]) (fun v s' => ∃ c, v = .bool c ∧ Q (.bool (!c)) s') E s) : wpAny (model prog w) A (richCompare .NotEq (.ref x) b) Q E s := by
  have one : wpAny (model prog w) A (tryCompare (.ref x) (cmpInfo .NotEq).2.1 b) (fun r s' => ∃ v, r = some v ∧ Q v s') E s := by
    unfold tryCompare
    refine wpAny_bind (bound_b X I h2 PySem.F.cmp_object.ne.bind (obj_ne hu X I hm hs hf (wpAny_mono h (fun v s' hv => ?_) fun _ _ e => e)))
    obtain ⟨c, rfl, q⟩ := hv
    exact ⟨c, rfl, wpAny_pure ⟨_, rfl, q⟩⟩
  have hu0 : A.units < cLine := Nat.lt_of_le_of_lt (Nat.le_succ _) hu
  unfold richCompare
  simp only [oneThing_ref]
  refine wpAny_holding (wpAny_bind (wpAny_cRoomFor hu0 ?_))
  refine wpAny_bind (I.type.here (wpAny_bind (hb.here ?_)))
  split
  · rename_i q
    have e : subIn K tb (.ref C) = some false := by
      rcases Bool.or_eq_true_iff.mp hn with e | e
      · rw [beq_iff_eq.mp e] at q; simp at q
      · exact beq_iff_eq.mp e
    refine wpAny_bind ((looks_subIn X e).here ?_)
    simp only [Bool.false_eq_true, if_false]
    refine wpAny_bind (wpAny_mono one (fun r s' z => ?_) fun _ _ e => e)
    obtain ⟨v, rfl, hq⟩ := z
    exact wpAny_pure hq
  · refine wpAny_bind (wpAny_pure ?_)
    simp only [Bool.false_eq_true, if_false]
    refine wpAny_bind (wpAny_mono one (fun r s' z => ?_) fun _ _ e => e)
    obtain ⟨v, rfl, hq⟩ := z
    exact wpAny_pure hq
end
structure NeOwn (K : PySem.W.Frag) (C f : Addr) (Ts : List String) : Prop where
  eq : EqOwn K C f Ts
  obj : PySem.W.mroIn K C (.type "object") = some true
  ne : PySem.W.findIn K (.ref C) "__ne__" = some (some (.builtin "object.__ne__"))
/-- x != y: what == would hand back, a bool, the other way round -/
def rNeOwn (C : Addr) (Ts : List String) (sp : Sp) (E : XK) : R2 := fun x y H Q => ∃ a, x = .ref a ∧ InsAt C H a ∧ ((∃ b, y = .ref b ∧ InsAt C H b) ∨ ∃ T, plT y = some T ∧ T ∈ Ts) ∧ sp [x, y] H (fun v H' => ∃ c, v = .bl c ∧ Q (.bl (!c)) H') E
section
variable {X : Cx} {CX : CXT} {g : Bool} {k : Nat} {f C : Addr} {fd : FuncData} {ps : List Str} {sp : Sp} {E : XK} {Ts : List String}
theorem op_neOwn (O : NeOwn X.K C f Ts) (F : FnG X.prog X.w X.K X.mg X.base CX g k f fd ps sp) (hr : Room (k + 1) X.A) (hg : Clr g X.A) (hb : Binds X.K fd ps []) (hx : Passes CX X E) : OpR X (compareOp .NotEq) (rNeOwn C Ts sp E) := by
  intro pins s σ H x y v u Q I rx ry h
  obtain ⟨a, rfl, ⟨dx, fs, ea⟩, hy, q⟩ := h
  obtain rfl : v = Value.ref a := rx
  obtain ⟨ox, od, J⟩ := inst_of I ea
  have body : wpAny (model X.prog X.w) X.A.in1 (call (.ref f) [.ref a, u]) (fun v s' => ∃ c, v = .bool c ∧ EP X pins σ Q (.bool (!c)) s') X.xe s :=
    wpAny_mono (run_g (us := [.ref a, u]) (vs := [.ref a, y]) (dvs := []) (E' := X.xe) F hr.in1 (clr_in1 hg) rfl hb .nil hx I (.cons rfl (.cons ry .nil)) q) (fun w s' z => by
      obtain ⟨z1, H', I', r', c, rfl, q'⟩ := z
      cases r'
      exact ⟨c, rfl, .bl (!c), H', I', rfl, q'⟩) fun _ _ z => z
  have hu : X.A.in1.units < cLine := Nat.lt_of_le_of_lt (by show X.A.units + 1 ≤ X.A.units + 64; omega) hr.units
  show wpAny (model X.prog X.w) X.A (richCompare .NotEq (.ref a) u) (EP X pins σ Q) X.xe s
  rcases hy with ⟨b, rfl, dy, gs, eb⟩ | ⟨T, hT, hm⟩
  · obtain rfl : u = Value.ref b := ry
    obtain ⟨oy, od2, J2⟩ := inst_of I eb
    exact ne_K hu I.kIn J J2.type (by show (Value.ref C == Value.ref C || _) = true; rw [beq_self_eq_true, Bool.true_or]) O.obj O.ne O.eq.at_ O.eq.fn body
  · exact ne_K hu I.kIn J (PySem.W.Looks.of_pure (plT_of ry hT)) (O.eq.ts T hm) O.obj O.ne O.eq.at_ O.eq.fn body
/-- str(x), repr(x) of an own class -/
def rStrOwn (C : Addr) (sp : Sp) (E : XK) : List V → Hp → VK → Prop := fun xs H Q => ∃ a, xs = [.ref a] ∧ InsAt C H a ∧ sp [.ref a] H (fun v H' => ∃ z, v = .str z ∧ Q v H') E
theorem str_back {X : Cx} {pins : List (Addr × Obj)} {σ : L2.St} {Q : VK} {v : Value} {s' : Shared} (h : EP X pins σ (fun v H' => ∃ z, v = .str z ∧ Q v H') v s') : PySem.W.StrBack (EP X pins σ Q) v s' := by
  obtain ⟨z1, H', I', r', z, rfl, q⟩ := h
  obtain ⟨t, rfl⟩ := r'
  exact ⟨.str z, H', I', ⟨t, rfl⟩, q⟩
theorem cr_strOwn (O : UnOwn X.K C "__str__" f) (F : FnG X.prog X.w X.K X.mg X.base CX g k f fd ps sp) (hr : Room (k + 2) X.A) (hg : Clr g X.A) (hb : Binds X.K fd ps []) (hx : Passes CX X E) : CallR X (.type "str") (rStrOwn C sp E) := by
  intro pins s σ H xs us Q I r h
  obtain ⟨a, rfl, ⟨dx, fs, ea⟩, q⟩ := h
  obtain ⟨u, rfl, ru⟩ := vals1 r
  obtain rfl : u = Value.ref a := ru
  obtain ⟨ox, od, J⟩ := inst_of I ea
  have hr1 : Room k X.A.in1.in1 := hr.in1.in1
  refine PySem.W.kso_call hr1.units0 I.kIn J O.at_ O.fn ?_
  exact wpAny_mono (run_g (us := [.ref a]) (vs := [.ref a]) (dvs := []) (E' := X.xe) F hr1 (clr_in1 (clr_in1 hg)) rfl hb .nil hx I (.cons rfl .nil) q) (fun _ _ z => str_back z) fun _ _ z => z
theorem cr_reprOwn (O : UnOwn X.K C "__repr__" f) (F : FnG X.prog X.w X.K X.mg X.base CX g k f fd ps sp) (hr : Room (k + 1) X.A) (hg : Clr g X.A) (hb : Binds X.K fd ps []) (hx : Passes CX X E) : CallR X (.builtin "repr") (rStrOwn C sp E) := by
  intro pins s σ H xs us Q I r h
  obtain ⟨a, rfl, ⟨dx, fs, ea⟩, q⟩ := h
  obtain ⟨u, rfl, ru⟩ := vals1 r
  obtain rfl : u = Value.ref a := ru
  obtain ⟨ox, od, J⟩ := inst_of I ea
  obtain ⟨m, Fr0⟩ := I.fr
  have hr1 : Room k X.A.in1 := hr.in1
  refine PySem.W.repr_K hr1.units0 Fr0 I.ok.mod.kin J O.at_ O.fn ?_
  exact wpAny_mono (run_g (us := [.ref a]) (vs := [.ref a]) (dvs := []) (E' := X.xe) F hr1 (clr_in1 hg) rfl hb .nil hx I (.cons rfl .nil) q) (fun _ _ z => str_back z) fun _ _ z => z
end
end LL
/-! LL3: making, repr of data, // of any sign; readings step by step. -/
namespace LL
open PySem PySem.Spec PyProof.Rows L2

section
variable {X : Cx} {CX : CXT} {g : Bool} {k : Nat} {f C : Addr} {fd : FuncData} {ps : List Str} {sp : Sp} {dvs : List V} {ds : List Value} {E : XK} {x : Str} {p pos : Pos} {e : Expr} {es : List Expr} {t : TA}
theorem run_mk {pins : List (Addr × Obj)} {σ : L2.St} {H : Hp} {s : Shared} {Q : VK} {us : List Value} {vs : List V} (M : Mk X.K C f) (F : FnG X.prog X.w X.K X.mg X.base CX g k f fd ps sp) (hr : Room (k + 1) X.A) (hg : Clr g X.A) (hb : Binds X.K fd ps ds) (hd : Vals dvs ds)
    (hx : Passes CX X E) (I : Inv X pins σ H s) (r : Vals vs us)
    (h : ∀ y dy, H y = none → H dy = none → dy ≠ y → sp (.ref y :: (vs ++ dvs)) (upd (upd H dy (.own y)) y (.ins C dy [])) (fun v H2 => v = .non ∧ Q (.ref y) H2) E) :
    wpAny (model X.prog X.w) X.A (call (.ref C) us) (EP X pins σ Q) X.xe s := by
  have want := h (s.heap.objs.size + 1) s.heap.objs.size (I.hok.fresh (Nat.le_succ _)) (I.hok.fresh (Nat.le_refl _)) (Nat.ne_of_lt (Nat.lt_succ_self _))
  have J := Inv.made (C := C) I
  have rr : Vals (V.ref (s.heap.objs.size + 1) :: (vs ++ dvs)) (Value.ref (s.heap.objs.size + 1) :: (us ++ ds)) := .cons rfl (r.append hd)
  have hl : (Value.ref (s.heap.objs.size + 1) :: us ++ ds).length = ps.length := rr.length.symm.trans (F.len _ _ _ _ want)
  have room := hr.make C us []
  refine wpAny_call (make_map (f := f) I.kIn M.makes M.init (beq_iff_eq.mp M.fn) (codeAny_mono (F.run _ X.stack _ _ ⟨Value.ref (s.heap.objs.size + 1) :: us, []⟩ _ _ _ E room (clr_make hg) (J.env0.make C us [])
    (hb _ (Value.ref (s.heap.objs.size + 1) :: us) J.kIn hl) rr want) (fun res s' q => ?_)))
  match res, q with
  | .error er, q => exact hx pins σ _ _ er s' J q
  | .ok (.ret u), q =>
    obtain ⟨v, H', J', rv, ev, q3⟩ := J.after q
    subst ev
    exact ⟨rv, ⟨V.ref (s.heap.objs.size + 1), H', J', rfl, q3⟩⟩
  | .ok .next, q => exact q.elim
  | .ok .brk, q => exact q.elim
  | .ok .cont, q => exact q.elim
/-- C(a, ..) -/
theorem pg_make (M : Mk X.K C f) (F : FnG X.prog X.w X.K X.mg X.base CX g k f fd ps sp) (hr : Room (k + 1) X.A) (hg : Clr g X.A) (hgl : Gl X x) (hm : X.mg x = some (.ref C)) (hb : Binds X.K fd ps ds) (hd : Vals dvs ds) (hx : Passes CX X E)
    (ha : PA X (e :: es) t)
    (hdb : (x == ("__debug__" : Str)) = false := by decide) (he : starEach (e :: es) X.env = (false, eval e X.env) :: starEach es X.env := by rfl)
    (hpl : (backTo pos (starEach es X.env)).any (·.1) = false := by rfl) : PE X (.Call (.Name x p) (e :: es) [] pos) (tMake C sp dvs E t) := by
  constructor
  intro pins s σ H Q I h
  refine wpAny_Call_Name_kw (ld_glob I hgl hm ?_ hdb)
  refine PySem.W.callWith_K (h₀ := X.base) I.ok.mod.kin M.kp (thn (ha.run pos pins s σ H _ I h) ?_) he hpl
  rintro us s1 ⟨vs, H1, I1, r, q⟩
  exact ⟨I1.kIn, run_mk M F hr hg hb hd hx I1 r q⟩
theorem pg_make0 (M : Mk X.K C f) (F : FnG X.prog X.w X.K X.mg X.base CX g k f fd ps sp) (hr : Room (k + 1) X.A) (hg : Clr g X.A) (hgl : Gl X x) (hm : X.mg x = some (.ref C)) (hb : Binds X.K fd ps ds) (hd : Vals dvs ds) (hx : Passes CX X E)
    (hdb : (x == ("__debug__" : Str)) = false := by decide) : PE X (.Call (.Name x p) [] [] pos) (tMake C sp dvs E tNil) := by
  constructor
  intro pins s σ H Q I h
  exact wpAny_Call_Name_kw (ld_glob I hgl hm (PySem.W.callWith_K0 I.kIn M.kp (run_mk (us := []) M F hr hg hb hd hx I .nil h)) hdb)
end

/-! ### repr of data, of a bool -/
def rReprD (K : PySem.W.Frag) : List V → Hp → VK → Prop := fun xs H Q => ∃ a d, xs = [.ref a] ∧ Dp K H (.ref a) d ∧ d.showable = true ∧ d.hasDict = false ∧ d.depth ≤ 16 ∧ d.shown.length ≤ sizeLine ∧ Q (.str d.shown) H
def bText (b : Bool) : Str := if b then "True" else "False"
def rReprB : List V → Hp → VK → Prop := fun xs H Q => ∃ b, xs = [.bl b] ∧ Q (.str (bText b)) H
section
variable {X : Cx}
theorem cr_reprD (hg : Clr true X.A) (hu : X.A.units + 64 < cLine) : CallR X (.builtin "repr") (rReprD X.K) := by
  intro pins s σ H xs us Q I r h
  obtain ⟨a, d, rfl, hd, h1, h2, h3, h4, q⟩ := h
  obtain ⟨u, rfl, ru⟩ := vals1 r
  obtain rfl : u = Value.ref a := ru
  obtain ⟨as, rd⟩ := Dp.reads I d _ _ hd (show RelV (.ref a) (Value.ref a) from rfl)
  refine repr_of_reads' rd h1 (PyData.noDict_hsm h2) (hg rfl) (by omega) (fun _ _ z => z) (fun h' v tk hk => ?_) h4
  exact ⟨.str _, H, I.kept hk, ⟨_, rfl⟩, q⟩
theorem cr_reprB : CallR X (.builtin "repr") rReprB := by
  intro pins s σ H xs us Q I r h
  obtain ⟨b, rfl, q⟩ := h
  obtain ⟨u, rfl, ru⟩ := vals1 r
  obtain rfl : u = Value.bool b := ru
  refine PySem.P.repr_of_bool ⟨.str (bText b), H, I.tok _, ⟨s.toks, ?_⟩, q⟩
  unfold bText
  cases b <;> rfl
end

/-! ### // by any divisor but 0 below 2 ^ 9000 -/
def CDivS (_ j : Int) : Prop := j ≠ 0 ∧ j.natAbs.log2 < 9000
section
variable {X : Cx}
theorem op_fdivS : OpR X (binaryOp .FloorDiv) (rI CDivS fun i j => .int (i.fdiv j)) := opI fun _ _ _ _ _ _ _ hc q => floordiv_int hc.1 q (.inl (PyProof.noPylong_of_log2 hc.2))
end
end LL
/-! LR: readings, one construct at a time: each row takes a goal «reading .. σ H Q» to what is left. -/
namespace LL
open PySem PySem.Spec PyProof.Rows L2

section
variable {σ : L2.St} {H H1 : Hp} {Q : VK} {QA : List V → Hp → Prop} {QB : Bool → Hp → Prop} {QS : L2.St → Hp → Prop} {x y v : V} {ta tb tc : TE} {t u : TT} {tr : TA} {s1 s2 : TS} {i j : Nat} {n : L2.St → Hp → Prop} {r : VK} {b c : L2.St → Hp → Prop} {r2 : R2} {K : PySem.W.Frag} {g : TG} {gs : TGs} {a p : Addr} {xs : List V} {m k : Int} {z : Str} {bb : Bool} {E : XK} {sp : Sp}
/-! names, constants, operators -/
theorem r_var (h : σ[i]? = some (some v)) (q : Q v H) : tVar i σ H Q := ⟨v, h, q⟩
theorem r_c (q : Q v H) : tC v σ H Q := q
theorem r_op (q : ta σ H fun x H1 => tb σ H1 fun y H2 => r2 x y H2 Q) : tOp r2 ta tb σ H Q := q
theorem r_un {ru : V → Hp → VK → Prop} (q : ta σ H fun x H1 => ru x H1 Q) : tUn ru ta σ H Q := q
theorem r_I0 {f : Int → Int → V} (q : Q (f m k) H) : rI0 f (.int m) (.int k) H Q := ⟨m, k, rfl, rfl, q⟩
theorem r_I {C : Int → Int → Prop} {f : Int → Int → V} (h : C m k) (q : Q (f m k) H) : rI C f (.int m) (.int k) H Q := ⟨m, k, rfl, rfl, h, q⟩
theorem r_U {f : Int → V} (q : Q (f m) H) : rU f (.int m) H Q := ⟨m, rfl, q⟩
theorem r_eqI (q : Q (.bl (decide (m = k))) H) : rEq (.int m) (.int k) H Q := ⟨rfl, by
  have e : decide (V.int m = V.int k) = decide (m = k) := by rw [dec_int]; exact Bool.beq_eq_decide_eq ..
  show Q (.bl (decide (V.int m = V.int k))) H
  rw [e]; exact q⟩
theorem r_neI (q : Q (.bl (!decide (m = k))) H) : rNe (.int m) (.int k) H Q := ⟨rfl, by
  have e : decide (V.int m = V.int k) = decide (m = k) := by rw [dec_int]; exact Bool.beq_eq_decide_eq ..
  show Q (.bl (!decide (V.int m = V.int k))) H
  rw [e]; exact q⟩
theorem r_eqS {z z' : Str} (q : Q (.bl (decide (z = z'))) H) : rEq (.str z) (.str z') H Q := ⟨rfl, by
  have e : decide (V.str z = V.str z') = decide (z = z') := by rw [dec_str]; exact Bool.beq_eq_decide_eq ..
  show Q (.bl (decide (V.str z = V.str z'))) H
  rw [e]; exact q⟩
theorem r_neS {z z' : Str} (q : Q (.bl (!decide (z = z'))) H) : rNe (.str z) (.str z') H Q := ⟨rfl, by
  have e : decide (V.str z = V.str z') = decide (z = z') := by rw [dec_str]; exact Bool.beq_eq_decide_eq ..
  show Q (.bl (!decide (V.str z = V.str z'))) H
  rw [e]; exact q⟩
/-! tests -/
theorem r_test (q : ta σ H fun x H' => ∃ k, x = .bl k ∧ QB k H') : tTest ta σ H QB := q
theorem r_tB (q : ta σ H fun x H' => ∃ k, x = .bl k ∧ QB k H') : tB ta σ H QB := q
theorem r_bl (q : QB bb H) : ∃ k, V.bl bb = .bl k ∧ QB k H := ⟨bb, rfl, q⟩
theorem r_and (q : t σ H fun c H1 => if c = true then u σ H1 QB else QB false H1) : tAnd t u σ H QB := q
theorem r_or (q : t σ H fun c H1 => if c = true then QB true H1 else u σ H1 QB) : tOr t u σ H QB := q
theorem r_not (q : t σ H fun c H1 => QB (!c) H1) : tNot t σ H QB := q
theorem r_andV (q : ta σ H fun x H1 => ∃ c, x = .bl c ∧ if c = true then tb σ H1 Q else Q (.bl false) H1) : tAndV ta tb σ H Q := q
theorem r_orV (q : ta σ H fun x H1 => ∃ c, x = .bl c ∧ if c = true then Q (.bl true) H1 else tb σ H1 Q) : tOrV ta tb σ H Q := q
theorem r_notV (q : ta σ H fun x H1 => ∃ c, x = .bl c ∧ Q (.bl (!c)) H1) : tNotV ta σ H Q := q
theorem r_blV {P : Bool → Prop} (q : P bb) : ∃ c, V.bl bb = .bl c ∧ P c := ⟨bb, rfl, q⟩
theorem r_if (q : t σ H fun c H1 => if c = true then ta σ H1 Q else tb σ H1 Q) : tIf t ta tb σ H Q := q
/-- an if by what is decided -/
theorem r_dec {P : Prop} [Decidable P] {A B : Prop} (h1 : P → A) (h2 : ¬ P → B) : if decide P = true then A else B := by
  by_cases h : P
  · rw [decide_eq_true h, if_pos rfl]; exact h1 h
  · rw [decide_eq_false h, if_neg Bool.false_ne_true]; exact h2 h
theorem r_ndec {P : Prop} [Decidable P] {A B : Prop} (h1 : ¬ P → A) (h2 : P → B) : if (!decide P) = true then A else B := by
  by_cases h : P
  · rw [decide_eq_true h, Bool.not_true, if_neg Bool.false_ne_true]; exact h2 h
  · rw [decide_eq_false h, Bool.not_false, if_pos rfl]; exact h1 h
theorem r_yes {A B : Prop} (e : bb = true) (q : A) : if bb = true then A else B := by rw [if_pos e]; exact q
theorem r_no {A B : Prop} (e : bb = false) (q : B) : if bb = true then A else B := by rw [e, if_neg Bool.false_ne_true]; exact q
/-! calls of built-ins, displays -/
theorem r_CB {rc : List V → Hp → VK → Prop} (q : tr σ H fun vs H1 => rc vs H1 Q) : tCB rc tr σ H Q := q
theorem r_nil (q : QA [] H) : tNil σ H QA := q
theorem r_cons (q : ta σ H fun x H1 => tr σ H1 fun xs H2 => QA (x :: xs) H2) : tCons ta tr σ H QA := q
/-- a new object: the heap grows by it -/
theorem r_tup (q : tr σ H fun xs H1 => xs.length ≤ sizeLine ∧ ∀ p H2, H1 p = none → Same H1 H2 → H2 p = some (.tup xs) → (∀ b, b ≠ p → H2 b = H1 b) → Q (.ref p) H2) : tTup tr σ H Q := by
  have e : (fun xs H1 => xs.length ≤ sizeLine ∧ ∀ p H2, H1 p = none → Same H1 H2 → H2 p = some (.tup xs) → (∀ b, b ≠ p → H2 b = H1 b) → Q (.ref p) H2) = (fun xs H1 => xs.length ≤ sizeLine ∧ ∀ p, H1 p = none → Q (.ref p) (upd H1 p (.tup xs))) := by
    funext xs H1
    refine propext ⟨fun ⟨a, z⟩ => ⟨a, fun p hp => z p _ hp (fun b o e => by rw [upd_ne (ne_of_none e hp)]; exact e) upd_same fun b hb => upd_ne hb⟩, fun ⟨a, z⟩ => ⟨a, fun p H2 hp s e ne => ?_⟩⟩
    have : H2 = upd H1 p (.tup xs) := by
      funext b
      by_cases hb : b = p
      · subst hb; rw [e, upd_same]
      · rw [upd_ne hb, ne b hb]
    rw [this]; exact z p hp
  show tr σ H (fun xs H1 => xs.length ≤ sizeLine ∧ ∀ p, H1 p = none → Q (.ref p) (upd H1 p (.tup xs)))
  rw [← e]; exact q
theorem r_lst (q : tr σ H fun xs H1 => xs.length ≤ sizeLine ∧ ∀ p H2, H1 p = none → Same H1 H2 → H2 p = some (.lst xs) → (∀ b, b ≠ p → H2 b = H1 b) → Q (.ref p) H2) : tLst tr σ H Q := by
  have e : (fun xs H1 => xs.length ≤ sizeLine ∧ ∀ p H2, H1 p = none → Same H1 H2 → H2 p = some (.lst xs) → (∀ b, b ≠ p → H2 b = H1 b) → Q (.ref p) H2) = (fun xs H1 => xs.length ≤ sizeLine ∧ ∀ p, H1 p = none → Q (.ref p) (upd H1 p (.lst xs))) := by
    funext xs H1
    refine propext ⟨fun ⟨a, z⟩ => ⟨a, fun p hp => z p _ hp (fun b o e => by rw [upd_ne (ne_of_none e hp)]; exact e) upd_same fun b hb => upd_ne hb⟩, fun ⟨a, z⟩ => ⟨a, fun p H2 hp s e ne => ?_⟩⟩
    have : H2 = upd H1 p (.lst xs) := by
      funext b
      by_cases hb : b = p
      · subst hb; rw [e, upd_same]
      · rw [upd_ne hb, ne b hb]
    rw [this]; exact z p hp
  show tr σ H (fun xs H1 => xs.length ≤ sizeLine ∧ ∀ p, H1 p = none → Q (.ref p) (upd H1 p (.lst xs)))
  rw [← e]; exact q
theorem r_new {o : HO} {R : Addr → Hp → Prop} (hz : xs.length ≤ 100000) (q : ∀ p H2, H p = none → Same H H2 → H2 p = some o → (∀ b, b ≠ p → H2 b = H b) → R p H2) : xs.length ≤ sizeLine ∧ ∀ p H2, H p = none → Same H H2 → H2 p = some o → (∀ b, b ≠ p → H2 b = H b) → R p H2 :=
  ⟨Nat.le_trans hz (by decide), q⟩
/-! items of lists, tuples -/
theorem r_ixL (h : SqL K H p xs) (e : atI xs m = some v) (q : Q v H) : rIxL K (.ref p) (.int m) H Q := ⟨p, xs, m, v, rfl, rfl, h, e, q⟩
theorem r_ixT (h : SqT K H p xs) (e : atI xs m = some v) (q : Q v H) : rIxT K (.ref p) (.int m) H Q := ⟨p, xs, m, v, rfl, rfl, h, e, q⟩
/-! attributes -/
theorem r_fld {f : Str} (q : ta σ H fun x H1 => ∃ a C dx fs v, x = .ref a ∧ H1 a = some (.ins C dx fs) ∧ Cls K C ∧ NoAttr K C f ∧ fs.lookup f = some v ∧ Q v H1) : tFld K ta f σ H Q := q
theorem r_fldAt {C dx : Addr} {fs : List (Str × V)} {f : Str} (h : H a = some (.ins C dx fs)) (c : Cls K C) (na : NoAttr K C f) (e : fs.lookup f = some v) (q : Q v H) :
    ∃ a' C dx fs v, V.ref a = .ref a' ∧ H a' = some (.ins C dx fs) ∧ Cls K C ∧ NoAttr K C f ∧ fs.lookup f = some v ∧ Q v H := ⟨a, C, dx, fs, v, rfl, h, c, na, e, q⟩
theorem r_prop {C : Addr} {dvs : List V} (q : ta σ H fun x H1 => ∃ a dx fs, x = .ref a ∧ H1 a = some (.ins C dx fs) ∧ sp (.ref a :: dvs) H1 Q E) : tProp C sp dvs E ta σ H Q := q
theorem r_propAt {C dx : Addr} {fs : List (Str × V)} {dvs : List V} (h : H a = some (.ins C dx fs)) (q : sp (.ref a :: dvs) H Q E) : ∃ a' dx fs, V.ref a = .ref a' ∧ H a' = some (.ins C dx fs) ∧ sp (.ref a' :: dvs) H Q E := ⟨a, dx, fs, rfl, h, q⟩
/-! calls of defs -/
theorem r_call {dvs : List V} (q : tr σ H fun vs H1 => sp (vs ++ dvs) H1 Q E) : tCall sp dvs E tr σ H Q := q
theorem r_meth {C : Addr} {mm : Str} {dvs : List V} (q : ta σ H fun x H1 => ∃ a dx fs, x = .ref a ∧ H1 a = some (.ins C dx fs) ∧ fs.lookup mm = none ∧ tr σ H1 fun vs H2 => sp (x :: (vs ++ dvs)) H2 Q E) : tMeth C mm sp dvs E ta tr σ H Q := q
theorem r_methAt {C dx : Addr} {fs : List (Str × V)} {mm : Str} {dvs : List V} (h : H a = some (.ins C dx fs)) (e : fs.lookup mm = none) (q : tr σ H fun vs H2 => sp (.ref a :: (vs ++ dvs)) H2 Q E) :
    ∃ a' dx fs, V.ref a = .ref a' ∧ H a' = some (.ins C dx fs) ∧ fs.lookup mm = none ∧ tr σ H fun vs H2 => sp (.ref a :: (vs ++ dvs)) H2 Q E := ⟨a, dx, fs, rfl, h, e, q⟩
theorem r_make {C : Addr} {dvs : List V} (q : tr σ H fun vs H1 => ∀ x dx, H1 x = none → H1 dx = none → dx ≠ x → sp (.ref x :: (vs ++ dvs)) (upd (upd H1 dx (.own x)) x (.ins C dx [])) (fun v H2 => v = .non ∧ Q (.ref x) H2) E) : tMake C sp dvs E tr σ H Q := q
/-! statements -/
theorem r_seq (q : s1 ⟨fun σ H => s2 ⟨n, r, b, c⟩ σ H, r, b, c⟩ σ H) : tSeq s1 s2 ⟨n, r, b, c⟩ σ H := q
theorem r_asg (q : ta σ H fun x H1 => g x σ H1 n) : tAsg ta g ⟨n, r, b, c⟩ σ H := q
theorem r_par (q : tr σ H fun vs H1 => ∃ v w, vs = [v, w] ∧ n ((σ.set i (some v)).set j (some w)) H1) : tPar i j tr ⟨n, r, b, c⟩ σ H := q
theorem r_parAt {w : V} (q : n ((σ.set i (some v)).set j (some w)) H) : ∃ v' w', [v, w] = [v', w'] ∧ n ((σ.set i (some v')).set j (some w')) H := ⟨v, w, rfl, q⟩
theorem r_ret (q : ta σ H r) : tRet ta ⟨n, r, b, c⟩ σ H := q
theorem r_drop (q : ta σ H fun _ H1 => n σ H1) : tDrop ta ⟨n, r, b, c⟩ σ H := q
theorem r_ifS (q : t σ H fun bb H1 => if bb = true then s1 ⟨n, r, b, c⟩ σ H1 else s2 ⟨n, r, b, c⟩ σ H1) : tIfS t s1 s2 ⟨n, r, b, c⟩ σ H := q
theorem r_next (q : n σ H) : tNext ⟨n, r, b, c⟩ σ H := q
theorem r_fieldS {tv : TE} {f : Str} (q : tv σ H fun y H1 => ta σ H1 fun x H2 => ∃ a C dx fs, x = .ref a ∧ H2 a = some (.ins C dx fs) ∧ Cls K C ∧ NoAttr K C f ∧ fs.length < 1000 ∧ n σ (upd H2 a (.ins C dx (putF f y fs)))) : sFld K ta tv f ⟨n, r, b, c⟩ σ H := q
theorem r_fieldAt {C dx : Addr} {fs : List (Str × V)} {f : Str} (h : H a = some (.ins C dx fs)) (cl : Cls K C) (na : NoAttr K C f) (hl : fs.length < 1000) (q : n σ (upd H a (.ins C dx (putF f y fs)))) :
    ∃ a' C dx fs, V.ref a = .ref a' ∧ H a' = some (.ins C dx fs) ∧ Cls K C ∧ NoAttr K C f ∧ fs.length < 1000 ∧ n σ (upd H a' (.ins C dx (putF f y fs))) := ⟨a, C, dx, fs, rfl, h, cl, na, hl, q⟩
/-! targets -/
theorem r_gname (q : QS (σ.set i (some v)) H) : gName i v σ H QS := q
theorem r_gnil (q : QS σ H) : gNil [] σ H QS := ⟨rfl, q⟩
theorem r_gcons (q : g v σ H fun σ' H' => gs xs σ' H' QS) : gCons g gs (v :: xs) σ H QS := ⟨v, xs, rfl, q⟩
theorem r_gtup {l : Nat} (h : SqT K H p xs) (e : xs.length = l) (q : gs xs σ H QS) : gTup K l gs (.ref p) σ H QS := ⟨p, xs, rfl, h, e, q⟩
theorem r_gsub {to ti : TE} {ts : TSet} (q : to σ H fun o H1 => ti σ H1 fun i H2 => ts o i v H2 fun H3 => QS σ H3) : gSub to ti ts v σ H QS := q
/-! texts -/
theorem r_fmt (q : ta σ H fun x H1 => (∃ y : Str, x = .str y ∧ y.length ≤ sizeLine ∧ Q (.str y) H1) ∨ ∃ i : Int, x = .int i ∧ i.natAbs.log2 < 1920 ∧ Q (.str (toString i)) H1) : tFmt ta σ H Q := q
theorem r_fmtI (h : m.natAbs.log2 < 1920) (q : Q (.str (toString m)) H) : (∃ y : Str, V.int m = .str y ∧ y.length ≤ sizeLine ∧ Q (.str y) H) ∨ ∃ i : Int, V.int m = .int i ∧ i.natAbs.log2 < 1920 ∧ Q (.str (toString i)) H := .inr ⟨m, rfl, h, q⟩
theorem r_fmtS (h : z.length ≤ sizeLine) (q : Q (.str z) H) : (∃ y : Str, V.str z = .str y ∧ y.length ≤ sizeLine ∧ Q (.str y) H) ∨ ∃ i : Int, V.str z = .int i ∧ i.natAbs.log2 < 1920 ∧ Q (.str (toString i)) H := .inl ⟨z, rfl, h, q⟩
theorem r_js0 {acc : Str} {QJ : Str → Hp → Prop} (q : QJ acc H) : tJs [] acc σ H QJ := q
theorem r_js {acc : Str} {QJ : Str → Hp → Prop} {ts : List TE} (q : ta σ H fun x H1 => ∃ y : Str, x = .str y ∧ (acc ++ y).length ≤ sizeLine ∧ tJs ts (acc ++ y) σ H1 QJ) : tJs (ta :: ts) acc σ H QJ := q
theorem r_jsAt {acc : Str} {QJ : Str → Hp → Prop} {ts : List TE} (h : (acc ++ z).length ≤ sizeLine) (q : tJs ts (acc ++ z) σ H QJ) : ∃ y : Str, V.str z = .str y ∧ (acc ++ y).length ≤ sizeLine ∧ tJs ts (acc ++ y) σ H QJ := ⟨z, rfl, h, q⟩
end
end LL
/-! LL4: the head by facts of our own, the law's end. -/
namespace LL
open PySem PySem.Spec PyProof.Rows L2

/-! ### facts by Bools -/
/-- the getter of the class's property -/
def pget (K : PySem.W.Frag) (C m : Str) : Addr := match PySem.W.recIn K (He.ma K (He.ga K C) m) "property" with
  | some (.ref f :: _) => f
  | _ => 0
def propB (K : PySem.W.Frag) (C m : Str) : Bool := He.eqO (PySem.W.findIn K (.ref (He.ga K C)) m) (some (some (.ref (He.ma K (He.ga K C) m)))) &&
  (He.eqO (PySem.W.specialIn K (.ref (He.ma K (He.ga K C) m)) "__get__") (some (some (.builtin "property.__get__"))) && (decide (PySem.W.takesIn K (.ref (He.ma K (He.ga K C) m)) = some true) &&
  (match PySem.W.recIn K (He.ma K (He.ga K C) m) "property" with
    | some (.ref _ :: _) => true
    | _ => false)))
theorem propB_ok {K : PySem.W.Frag} {C m : Str} (h : propB K C m = true) : PropOf K (He.ga K C) m (He.ma K (He.ga K C) m) (pget K C m) := by
  obtain ⟨h1, h⟩ := He.ba h
  obtain ⟨h2, h⟩ := He.ba h
  obtain ⟨h3, h4⟩ := He.ba h
  refine ⟨He.eqO_ok h1, He.eqO_ok h2, of_decide_eq_true h3, ?_⟩
  unfold pget
  split at h4
  · rename_i f r e
    exact ⟨r, by rw [e]⟩
  · cases h4
def bltB (K : PySem.W.Frag) (x : Str) (id : String) : Bool := He.eqO (PySem.W.nsIn K mainGlobals x) (some (some (.builtin id)))
theorem bltB_ok {K : PySem.W.Frag} {h : Heap} {mg : Str → Option Value} (X : K.In h) (G : h.Ns mainGlobals mg) {x : Str} {id : String} (c : bltB K x id = true) : mg x = some (.builtin id) := PySem.W.mg_of X G (He.eqO_ok c)
def fnB (K : PySem.W.Frag) (C m : Str) : Bool := He.eqO (PySem.W.findIn K (.ref (He.ga K C)) m) (some (some (.ref (He.ma K (He.ga K C) m)))) && PySem.W.isFn K (.ref (He.ma K (He.ga K C) m))
theorem fnB_ok {K : PySem.W.Frag} {C m : Str} (h : fnB K C m = true) : UnOwn K (He.ga K C) m (He.ma K (He.ga K C) m) := by
  obtain ⟨h1, h2⟩ := He.ba h
  exact ⟨He.eqO_ok h1, h2⟩
def opB (K : PySem.W.Frag) (C : Str) (nm : String) (Ts : List String) : Bool := PySem.W.selfFirst K (He.ga K C) && (fnB K C (PySem.dunder nm) && (He.eqO (PySem.W.findIn K (.ref (He.ga K C)) (dunderR nm)) (some none) &&
  Ts.all fun T => (PySem.W.findIn K (.type T) (PySem.dunder nm)).isSome && ((PySem.W.findIn K (.type T) (dunderR nm)).isSome && decide (PySem.W.subIn K (.type T) (.ref (He.ga K C)) = some false))))
theorem opB_ok {K : PySem.W.Frag} {C : Str} {nm : String} {Ts : List String} (h : opB K C nm Ts = true) : OpOwn K (He.ga K C) nm (He.ma K (He.ga K C) (PySem.dunder nm)) Ts := by
  obtain ⟨h1, h⟩ := He.ba h
  obtain ⟨h2, h⟩ := He.ba h
  obtain ⟨h3, h4⟩ := He.ba h
  have u := fnB_ok h2
  refine ⟨h1, u.at_, u.fn, He.eqO_ok h3, fun T hT => ?_⟩
  obtain ⟨a, b⟩ := He.ba (List.all_eq_true.mp h4 T hT)
  obtain ⟨b, c⟩ := He.ba b
  exact ⟨Option.isSome_iff_exists.mp a, Option.isSome_iff_exists.mp b, of_decide_eq_true c⟩
def eqB (K : PySem.W.Frag) (C : Str) (Ts : List String) : Bool := fnB K C "__eq__" && Ts.all fun T => PySem.W.notFirst K (He.ga K C) (.type T)
theorem eqB_ok {K : PySem.W.Frag} {C : Str} {Ts : List String} (h : eqB K C Ts = true) : EqOwn K (He.ga K C) (He.ma K (He.ga K C) "__eq__") Ts := by
  obtain ⟨h1, h2⟩ := He.ba h
  have u := fnB_ok h1
  exact ⟨u.at_, u.fn, fun T hT => List.all_eq_true.mp h2 T hT⟩
def neB (K : PySem.W.Frag) (C : Str) (Ts : List String) : Bool := eqB K C Ts && (decide (PySem.W.mroIn K (He.ga K C) (.type "object") = some true) && He.eqO (PySem.W.findIn K (.ref (He.ga K C)) "__ne__") (some (some (.builtin "object.__ne__"))))
theorem neB_ok {K : PySem.W.Frag} {C : Str} {Ts : List String} (h : neB K C Ts = true) : NeOwn K (He.ga K C) (He.ma K (He.ga K C) "__eq__") Ts := by
  obtain ⟨h1, h⟩ := He.ba h
  obtain ⟨h2, h3⟩ := He.ba h
  exact ⟨eqB_ok h1, of_decide_eq_true h2, He.eqO_ok h3⟩
/-- what isinstance asks of an own class -/
structure IsiOwn (K : PySem.W.Frag) (C : Addr) : Prop where
  ha : PySem.W.findIn K (.ref C) "__class__" = some (some (.builtin "object.__class__"))
  hn : PySem.W.specialIn K (.builtin "object.__class__") "__get__" = some (some (.builtin "getset_descriptor.__get__"))
  ht : PySem.W.takesIn K (.builtin "object.__class__") = some true
  hm : PySem.W.mroIn K C (.type "object") = some true
def isiB (K : PySem.W.Frag) (C : Str) : Bool := He.eqO (PySem.W.findIn K (.ref (He.ga K C)) "__class__") (some (some (.builtin "object.__class__"))) && (He.eqO (PySem.W.specialIn K (.builtin "object.__class__") "__get__") (some (some (.builtin "getset_descriptor.__get__"))) &&
  (decide (PySem.W.takesIn K (.builtin "object.__class__") = some true) && decide (PySem.W.mroIn K (He.ga K C) (.type "object") = some true)))
theorem isiB_ok {K : PySem.W.Frag} {C : Str} (h : isiB K C = true) : IsiOwn K (He.ga K C) := by
  obtain ⟨h1, h⟩ := He.ba h
  obtain ⟨h2, h⟩ := He.ba h
  obtain ⟨h3, h4⟩ := He.ba h
  exact ⟨He.eqO_ok h1, He.eqO_ok h2, of_decide_eq_true h3, of_decide_eq_true h4⟩
/-- isinstance(a value of type T, the class C): the answer b -/
def kitTB (K : PySem.W.Frag) (T : String) (C : Str) (b : Bool) : Bool := decide (PySem.W.kitOne K (.type T) (.ref (He.ga K C)) = some b)
theorem kitTB_ok {K : PySem.W.Frag} {T : String} {C : Str} {b : Bool} (h : kitTB K T C b = true) : PySem.W.kitOne K (.type T) (.ref (He.ga K C)) = some b := of_decide_eq_true h
theorem kit_self {K : PySem.W.Frag} {C : Addr} : PySem.W.kitOne K (.ref C) (.ref C) = some true := by
  unfold PySem.W.kitOne
  rw [if_pos (beq_self_eq_true _)]

/-! ### the hook -/
def obsLG (n : Nat) (fa : List He.Fa) (fn : List He5.DefA) (ex : PySem.W.Frag → Bool) (g : Addr → Option Obj) : He.AlD × Bool := (He5.obsAG n fa fn g, ex (He.frG g (He5.asA g n)))
def hookL (n : Nat) (fa : List He.Fa) (fn : List He5.DefA) (ex : PySem.W.Frag → Bool) : PySem.W.Hook where
  α := He.AlD × Bool
  obs := fun s => obsLG n fa fn ex s.heap.get?
  val := fun _ => (He5.valA fn, true)
  says := fun _ h => ∃ K : PySem.W.Frag, K.In h ∧ He5.SaysA fa fn K ∧ ex K = true
  of := fun _ s e => ⟨_, He.frG_in, congrArg Prod.fst e, congrArg Prod.snd e⟩
  keeps := fun _ _ _ ⟨K, hK, c, x⟩ k => ⟨K, PySem.W.Frag.In.keeps hK k, c, x⟩
theorem obsLG_eq {n : Nat} {fa : List He.Fa} {fn : List He5.DefA} {ex : PySem.W.Frag → Bool} {g : Addr → Option Obj} {s : Shared} (h : ∀ a, g a = s.heap.get? a) : obsLG n fa fn ex g = (hookL n fa fn ex).obs s := by
  have e : g = s.heap.get? := funext h
  subst e
  rfl

/-! ### the law's call -/
theorem law_g {P : Program} {w : World} {K : PySem.W.Frag} {mg mb : Str → Option Value} {CX : CXT} {g : Bool} {k : Nat} {fa a : Addr} {fd : FuncData} {x : Str} {sp : Sp} {s0 : Shared} {us : List Value} {ns : List Int}
    (KX : K.In s0.heap) (G : s0.heap.Ns mainGlobals mg) (B : s0.heap.Ns builtinsNs mb) (BB : ∀ x : Str, x ≠ "__name__" → mb x = bootBuiltins x) (L : s0.heap.NoLimit) (gens : s0.gens = #[])
    (ha : s0.heap.get? a = some { cls := .type "list", data := .seq us.toArray }) (hi : IntsAre us ns) (hl : ns.length ≤ sizeLine) (room : Room k callerA)
    (F : ∀ base : Heap, K.In base → base.Ns mainGlobals mg → FnG P w K mg base CX g k fa fd [x] sp) (bind : ∀ (s : Shared) (u : Value), BindsTo s fd ⟨[u], []⟩ [(x, u)])
    (want : ∀ H : Hp, Only H → SqL K H a (ns.map V.int) → sp [.ref a] H (fun v _ => v = .bl true) fun _ _ _ => False) (none_ : ∀ H e s', CX [] H s0 (fun _ _ _ => False) e s' → False) :
    codeAny (model P w) callerA (.call (.ref fa) ⟨[.ref a], []⟩) (fun r s' => r = .ok (.ret (.bool true)) ∧ OldK s0.heap s'.heap ∧ s'.os = s0.os ∧ AllBare s'.gens) s0 := by
  have rel := vals_ints hi
  have go : ∀ H : Hp, Only H → SqL K H a (ns.map V.int) → HOk P w H s0.heap → (∀ b, H b ≠ none → b = a) → (H a ≠ none → K.lookup a = none) →
      codeAny (model P w) callerA (.call (.ref fa) ⟨[.ref a], []⟩) (fun r s' => r = .ok (.ret (.bool true)) ∧ OldK s0.heap s'.heap ∧ s'.os = s0.os ∧ AllBare s'.gens) s0 := by
    intro H only seq hok onlyA freeK
    have isA : ∀ {b : Addr} {u : HO}, H b = some u → b = a := fun {b u} e => onlyA b (fun z => by rw [e] at z; cases z)
    have dictFree : ∀ {b : Addr} {o : Obj} {es : Array DictEntry} {ep : Nat}, s0.heap.get? b = some o → o.data = .dict es ep → H b = none := by
      intro b o es ep e d
      match q : H b with
      | none => rfl
      | some u =>
        have e1 := isA q
        rw [e1, ha] at e
        cases e
        cases d
    have up : ∀ {b : Addr} {m : Str → Option Value}, s0.heap.Ns b m → (hidT s0.heap H).Ns b m := by
      rintro b m ⟨o, es, ep, e, d, r⟩
      exact ⟨o, es, ep, hidT_get e (dictFree e d), d, r⟩
    have KB : K.In (hidT s0.heap H) := by
      intro b o e
      refine hidT_get (KX b o e) ?_
      match q : H b with
      | none => rfl
      | some u =>
        have e1 := isA q
        rw [e1] at q e
        rw [freeK (fun z => by rw [q] at z; cases z)] at e
        cases e
    obtain ⟨mc, l1, l2⟩ := L
    have M : Mod K mg (hidT s0.heap H) := ⟨KB, up G, ⟨mb, up B, BB⟩, ⟨mc, up l1, l2⟩⟩
    have e0 : Env0 P w K mg (hidT s0.heap H) callerA [] s0 H := ⟨rfl, M, fun _ _ e => of_hidT e, Nat.le_of_eq (hidT_size _ _), trivial, (fun b hb => nomatch hb), hok, .of_eq gens⟩
    refine codeAny_mono ((F _ KB (up G)).run callerA [] s0 H ⟨[.ref a], []⟩ [.ref a] [.ref a] _ _ room (fun _ => rfl) e0 (bind s0 (.ref a)) (.cons rfl .nil) (want H only seq)) ?_
    intro r s' h
    match r, h with
    | .error e, h => exact (none_ H e s' h).elim
    | .ok .next, h => exact h.elim
    | .ok .brk, h => exact h.elim
    | .ok .cont, h => exact h.elim
    | .ok (.ret u), h =>
      obtain ⟨v, H', os, bare, un, hok', rv, ev⟩ := h
      have ev : v = V.bl true := ev
      subst ev
      obtain rfl : u = Value.bool true := rv
      refine ⟨rfl, OldK.of_keep (fun b o e => ?_), os, bare⟩
      rcases only b with q | ⟨ob, xs, q⟩
      · exact un.keep b o e q (fun z => nomatch z) (by simp)
      · have z1 := (hok b _ q).1
        have z2 := (hok' b _ (un.frzs b ob _ q)).1
        rw [e] at z1
        cases z1
        exact z2
  match hk : K.lookup a with
  | some o =>
    have e := KX a o hk
    rw [ha] at e
    cases e
    have lenV := hi.length
    exact go (fun _ => none) (fun _ => .inl rfl) (.inr ⟨_, us.toArray, _, hk, rfl, rfl, rfl, by rw [List.size_toArray, lenV]; exact hl, by simpa using rel⟩) (fun b u z => nomatch z) (fun b z => (z rfl).elim) (fun z => (z rfl).elim)
  | none =>
    have at_ : (upd (fun _ => none) a (.frz { cls := .type "list", data := .seq us.toArray } (.lst (ns.map V.int)))) a = some (HO.frz { cls := .type "list", data := .seq us.toArray } (.lst (ns.map V.int))) := upd_same
    have off : ∀ b, b ≠ a → (upd (fun _ => none) a (.frz { cls := .type "list", data := .seq us.toArray } (.lst (ns.map V.int)))) b = none := fun b hb => upd_ne hb
    refine go (upd (fun _ => none) a (.frz { cls := .type "list", data := .seq us.toArray } (.lst (ns.map V.int)))) (fun b => ?_) (.inl (.inr ⟨_, at_⟩)) (fun b u z => ?_) (fun b z => ?_) (fun _ => hk)
    · by_cases hb : b = a
      · subst hb; exact .inr ⟨_, _, at_⟩
      · exact .inl (off b hb)
    · by_cases hb : b = a
      · subst hb
        rw [at_] at z
        cases z
        exact ⟨ha, by rw [List.length_map]; exact hl, us, _, rel, ha⟩
      · rw [off b hb] at z
        cases z
    · by_cases hb : b = a
      · exact hb
      · exact (z (off b hb)).elim
/-- a name that the text imports from math -/
theorem xl_fn {q : Program} {mg : Str → Option Value} {h : Heap} {x : Str} {id : String} (XX : PySem.W.XL q [] mg h) (hx : (Flt.mathDrawn q).lookup x = some (.fn id)) : mg x = some (.builtin id) :=
  XX.1.drawn (x, .fn id) (PySem.mem_of_lookup hx)
theorem walk_g {l : PySem.W.OpenLaw} {n k : Nat} {g : Bool} {q : Program} {loose : List Str} {XP : (Str → Option Value) → Heap → Prop} {YP : World → Heap → Prop} {d : DefRec} {CX : CXT} {x : Str}
    (hn : l.most = some n) (hn2 : n ≤ sizeLine) (hdf : d.params.defaults = []) (room : Room k callerA)
    (F : ∀ (w : World) (mg : Str → Option Value) (fa : Addr) (h : Heap), YP w h → XP mg h → h.Ns mainGlobals mg → mg d.name = some (.ref fa) →
      ∃ (K : PySem.W.Frag) (fd : FuncData) (sp : Sp), K.In h ∧ (∀ (s : Shared) (u : Value), BindsTo s fd ⟨[u], []⟩ [(x, u)]) ∧
        (∀ (H : Hp) (a : Addr) (ns : List Int), ns.length ≤ n → Only H → SqL K H a (ns.map V.int) → sp [.ref a] H (fun v _ => v = .bl true) fun _ _ _ => False) ∧
        ∀ base : Heap, K.In base → base.Ns mainGlobals mg → FnG l.prog w K mg base CX g k fa fd [x] sp)
    (none_ : ∀ (H : Hp) (s : Shared) (e : Value) (s' : Shared), CX [] H s (fun _ _ _ => False) e s' → False) : PySem.W.WalkO q loose XP YP l.row.toRowW d [] (fun f vs => PySem.call f vs) := by
  refine Att.attach_call hn hdf ?_
  intro w s0 s1 mg mb fa o pm cd doc a us ns G Y ho hd hcd hmg hobj hints hlen gens
  obtain ⟨K, fd, sp, KX, hb, hsp, hF⟩ := F w mg fa _ Y G.X G.T.g hmg
  exact law_g KX G.T.g G.T.b G.T.builtins G.T.nolimit gens hobj hints (Nat.le_trans hlen hn2) room hF hb (fun H only seq => hsp H a ns hlen only seq) (fun H e s' => none_ H s1 e s')
end LL
/-! LL5: the head of a program that begins with imports: the imports and the top in one kernel run over the heap as a tree. -/
noncomputable section
namespace LL
open PySem PySem.W PySem.Calls PyProof.Rows HandSHeadRun

def impF (st : SharedT → Thread → Option (SharedT × Thread)) : Nat → SharedT → Thread → Option SharedT
  | 0, _, _ => none
  | m + 1, s, t => match t.atExitBegin with
    | some [] => some s
    | some (_ :: _) => none
    | none => match st s t with
      | some (s', t') => frS s' fun s' => impF st m s' t'
      | none => none
theorem impF_ok {tb : String → Option Builtin} {p : Program} {w : World} : ∀ {m : Nat} {s s' : SharedT} {t : Thread}, impF (stepT (denote tb) p w) m s t = some s' → importEnds tb p w m s.abs t = some s'.abs
  | 0, _, _, _, h => nomatch h
  | m + 1, s, s', t, h => by
    unfold impF at h
    unfold importEnds
    match hx : t.atExitBegin, h with
    | some [], h => cases h; rfl
    | some (_ :: _), h => cases h
    | none, h =>
      match hs : stepT (denote tb) p w s t, h with
      | none, h => cases h
      | some (s2, t2), h =>
        have h2 : frS s2 (fun s' => impF (stepT (denote tb) p w) m s' t2) = some s' := h
        rw [frS_eq] at h2
        have q := impF_ok h2
        show (match step (denote tb) p w s.abs t with
          | .go s' t' => importEnds tb p w m s' t'
          | .halt _ _ => none) = some s'.abs
        rw [stepT_spec hs]
        exact q
/-- the state at the very start -/
def startT (p : Program) : SharedT := ⟨.nil, 0, ({} : Heap).life, #[], {}, 1, { stdin := p.given.stdin.toArray }⟩
theorem startT_abs (p : Program) : (startT p).abs = (start p).1 := rfl
/-- a state as a tree -/
def treeOf (s : Shared) : Option SharedT := match putAll s.heap.objs.toList .nil 0 with
  | some (t, n) => frNat n fun n => some ⟨t, n, s.heap.life, s.gens, s.drawn, s.toks, s.os⟩
  | none => none
theorem treeOf_ok {s : Shared} {t : SharedT} (h : treeOf s = some t) : t.abs = s := by
  unfold treeOf at h
  match e : putAll s.heap.objs.toList .nil 0, h with
  | none, h => cases h
  | some (b, n), h =>
    have h2 : frNat n (fun n => some (⟨b, n, s.heap.life, s.gens, s.drawn, s.toks, s.os⟩ : SharedT)) = some t := h
    rw [frNat_eq] at h2
    cases h2
    show (⟨absHeap b n s.heap.life, s.gens, s.drawn, s.toks, s.os⟩ : Shared) = s
    rw [putAll_heap e]
/-- behind the imports, fenced -/
def openT (st : Program → SharedT → Thread → Option (SharedT × Thread)) (N : Nat) (p : Program) : Option SharedT := match impF (st (opening p)) N (startT (opening p)) (start (opening p)).2 with
  | some s0 => (match fenceModules? p s0.abs with
    | some s1 => treeOf s1
    | none => none)
  | none => none
/-- behind the top -/
def topT (st : Program → SharedT → Thread → Option (SharedT × Thread)) (M : Nat) (p : Program) (s : SharedT) : Option SharedT := match s.abs.heap.isNs mainGlobals && s.gens.size == 0 with
  | true => frNat s.n fun n0 => goF (st p) n0 (s.abs.heap.nsMap mainGlobals "__annotations__") M s (topStub p)
  | false => none
def endT (st : Program → SharedT → Thread → Option (SharedT × Thread)) (N M : Nat) (p : Program) : Option (SharedT × SharedT) := match openT st N p with
  | some s => (match topT st M p s with
    | some s' => some (s, s')
    | none => none)
  | none => none
theorem abs_size (s : SharedT) : s.abs.heap.objs.size = s.n := absHeap_size s.tree s.n s.life
theorem left_imp {p q : Program} {loose : List Str} {Xt : Shared → Bool} {α : Type} {Yf : Shared → α} {Ya : World → α} {N M : Nat} (le : Nat.ble M N = true)
    (run : ∀ w : World, (endT (fun p => stepT (denote treeTable) p w) N M p).map (fun r => (looksF p r.1.abs.heap r.2.abs, openSeen q loose (importedModules p.main.body) Xt true r.2.abs, Yf r.2.abs)) = some (true, openGood q loose, Ya w)) :
    LeftO p q loose Xt Yf Ya N true := by
  intro w
  obtain ⟨⟨s1, s⟩, e, hv⟩ := Option.map_eq_some_iff.mp (run w)
  obtain ⟨l1, l2, l3⟩ : _ ∧ _ ∧ _ := by simpa only [Prod.mk.injEq] using hv
  -- the opening
  unfold endT at e
  match ho : openT (fun p => stepT (denote treeTable) p w) N p, e with
  | none, e => cases e
  | some sA, e =>
    have e1 : (match topT (fun p => stepT (denote treeTable) p w) M p sA with
      | some s' => some (sA, s')
      | none => none) = some (s1, s) := e
    match ht : topT (fun p => stepT (denote treeTable) p w) M p sA, e1 with
    | none, e1 => cases e1
    | some sB, e1 =>
      cases e1
      have fo : fencedOpening treeTable p w N = some s1.abs := by
        unfold openT at ho
        match hi : impF (stepT (denote treeTable) (opening p) w) N (startT (opening p)) (start (opening p)).2, ho with
        | none, ho => cases ho
        | some s0, ho =>
          have h1 : (match fenceModules? p s0.abs with
            | some s1 => treeOf s1
            | none => none) = some s1 := ho
          match hf : fenceModules? p s0.abs, h1 with
          | none, h1 => cases h1
          | some s2, h1 =>
            have h2 : treeOf s2 = some s1 := h1
            unfold fencedOpening
            have q := impF_ok hi
            rw [startT_abs] at q
            rw [q]
            show fenceModules? p s0.abs = some s1.abs
            rw [hf, treeOf_ok h2]
      have tf : topFrom treeTable p w N s1.abs = some s.abs := by
        unfold topT at ht
        unfold topFrom
        match hb : (s1.abs.heap.isNs mainGlobals && s1.gens.size == 0), ht with
        | false, ht => cases ht
        | true, ht =>
          have h1 : frNat s1.n (fun n0 => goF (stepT (denote treeTable) p w) n0 (s1.abs.heap.nsMap mainGlobals "__annotations__") M s1 (topStub p)) = some s := ht
          rw [frNat_eq] at h1
          have r := topRun_mono (N - M) _ _ _ _ (goF_ok h1)
          rw [show M + (N - M) = N by have := Nat.le_of_ble_eq_true le; omega] at r
          show (topRun treeTable p w s1.abs.heap.objs.size (s1.abs.heap.nsMap mainGlobals "__annotations__") N s1.abs (topStub p)).bind _ = _
          rw [abs_size, r]
          have l1' : (staticsOk (importedModules p.main.body) s1.abs.heap s.abs.heap && namesBound p s.abs.heap && gensDone s.abs && laidKept s1.abs.heap s.abs.heap) = true := l1
          show (match staticsOk (importedModules p.main.body) s1.abs.heap s.abs.heap && namesBound p s.abs.heap && gensDone s.abs && laidKept s1.abs.heap s.abs.heap with | true => some s.abs | false => none) = _
          rw [l1']
      unfold openEnds
      rw [fo]
      show (topFrom treeTable p w N s1.abs).map _ = _
      rw [tf]
      exact congrArg some (Prod.ext l2 l3)
/-- the run's equation, by the library's twins -/
def RunI (r : OpenRow) (q : Program) (H : Hook) (ob : SharedT → H.α) (N M : Nat) (loose : List PySem.Str) (w : World) : Prop :=
  (endT (fun p => stepQ (denQ tabQ) p w) N M r.prog).map (fun z => (looksF r.prog z.1.abs.heap z.2.abs, seenQ q loose (importedModules r.prog.main.body) (fun s => xlAt q [] s && recOk r.toRowW.records s) z.2.abs, ob z.2)) = some (true, openGood q loose, H.val w)
theorem head_imp {r : OpenRow} {q : Program} {H : Hook} {ob : SharedT → H.α} {N M : Nat} {loose : List PySem.Str} {d : DefRec} {kwd : List (PySem.Str × PySem.Expr)} (ho : ∀ s : SharedT, ob s = H.obs s.abs) (le : Nat.ble M N = true)
    (run : ∀ w, RunI r q H ob N M loose w)
    (hdef : defOf q r.name = some (d, kwd)) (hp : r.prog.theDef r.name = some (d.params, d.body, d.scope)) (hk : kwWritten? d.params.kwonlyargs d.params.kw_defaults = some kwd)
    (hwr : (!r.writes || r.records.isEmpty) = true) (k1 : r.wellSaid = true) (ok : (chainsOk q && opensWell r.prog && (frees r.toRowW && r.within.isEmpty)) = true) (hb : r.prog.bare) (hw : r.toRowW.promised)
    (call : WalkO q loose (XL q []) H.says r.toRowW d kwd fun f vs => PySem.call f vs) : r.Holds := by
  have left : LeftO r.prog q loose (fun s => xlAt q [] s && recOk r.toRowW.records s) H.obs H.val N true := left_imp (M := M) le fun w => by
    have z := run w
    have eo : ob = fun s => H.obs s.abs := funext ho
    unfold RunI at z
    rw [eo] at z
    simp only [stepQ_eq, denQ_eq, tabQ_eq, seenQ_eq]
    exact z
  exact holds_open (r := r) (q := q) (loose := loose) (XP := XL q []) (YP := H.says) (d := d) (kwd := kwd) left H.of H.keeps (fun s z => xl_of s (Bool.and_eq_true_iff.mp z).1) XL.keeps hdef hp hk (fun s z => recFacts_of (Bool.and_eq_true_iff.mp z).2) hwr k1 ok hb hw call
end LL
/-! LR2: more readings; sizes; the fraction in lowest terms. -/
namespace LL
open PySem PySem.Spec PyProof.Rows L2

section
variable {σ : L2.St} {H H1 : Hp} {Q : VK} {K : PySem.W.Frag} {x c v : V} {t u : Value} {b : Bool} {m k : Int} {xs : List V} {p : Addr}
theorem r_isi (ht : TyX K H x t) (hc : ClsV c u) (hk : PySem.W.kitOne K t u = some b) (q : Q (.bl b) H) : rIsi K [x, c] H Q := ⟨x, c, t, u, b, rfl, hc, ht, hk, q⟩
theorem ty_int {i : Int} : TyX K H (.int i) (.type "int") := .base (.int i)
theorem ty_own {a C dx : Addr} {fs : List (Str × V)} (e : H a = some (.ins C dx fs)) (cl : Cls K C) (o : IsiOwn K C) : TyX K H (.ref a) (.ref C) := .base (.ins e cl o.ha o.hn o.ht o.hm)
theorem r_notB {QB : V → Hp → Prop} (q : QB (.bl (!b)) H) : ∃ c, V.bl b = .bl c ∧ QB (.bl (!c)) H := ⟨b, rfl, q⟩
theorem r_gcd (q : Q (.int ((Nat.gcd m.natAbs k.natAbs : Nat) : Int)) H) : rGcd [.int m, .int k] H Q := ⟨m, k, rfl, q⟩
theorem r_abs (q : Q (.int (if m < 0 then -m else m)) H) : (fun xs H Q => ∃ i, xs = [V.int i] ∧ Q (V.int (if i < 0 then -i else i)) H) [.int m] H Q := ⟨m, rfl, q⟩
theorem r_max (q : Q (.int (if k > m then k else m)) H) : (fun xs H Q => ∃ i j, xs = [V.int i, V.int j] ∧ Q (V.int (if j > i then j else i)) H) [.int m, .int k] H Q := ⟨m, k, rfl, q⟩
theorem r_min (q : Q (.int (if k < m then k else m)) H) : (fun xs H Q => ∃ i j, xs = [V.int i, V.int j] ∧ Q (V.int (if j < i then j else i)) H) [.int m, .int k] H Q := ⟨m, k, rfl, q⟩
theorem r_int (q : Q (.int m) H) : (fun xs H Q => (∃ i, xs = [V.int i] ∧ Q (V.int i) H) ∨ ∃ k, xs = [V.bl k] ∧ Q (V.int (if k then 1 else 0)) H) [.int m] H Q := .inl ⟨m, rfl, q⟩
theorem r_intB (q : Q (.int (if b then 1 else 0)) H) : (fun xs H Q => (∃ i, xs = [V.int i] ∧ Q (V.int i) H) ∨ ∃ k, xs = [V.bl k] ∧ Q (V.int (if k then 1 else 0)) H) [.bl b] H Q := .inr ⟨b, rfl, q⟩
theorem r_strI (h : m.natAbs.log2 < 1920) (q : Q (.str (toString m)) H) : (fun xs H Q => ∃ i, xs = [V.int i] ∧ i.natAbs.log2 < 1920 ∧ Q (V.str (toString i)) H) [.int m] H Q := ⟨m, rfl, h, q⟩
theorem r_lenL (h : SqL K H p xs) (q : Q (.int xs.length) H) : (fun vs H Q => ∃ p ys, vs = [V.ref p] ∧ (SqL K H p ys ∨ SqT K H p ys) ∧ Q (V.int ys.length) H) [.ref p] H Q := ⟨p, xs, rfl, .inl h, q⟩
theorem r_lenT (h : SqT K H p xs) (q : Q (.int xs.length) H) : (fun vs H Q => ∃ p ys, vs = [V.ref p] ∧ (SqL K H p ys ∨ SqT K H p ys) ∧ Q (V.int ys.length) H) [.ref p] H Q := ⟨p, xs, rfl, .inr h, q⟩
theorem r_addS {z z' : Str} (h : z.length + z'.length ≤ sizeLine) (q : Q (.str (z ++ z')) H) : (fun x y H Q => ∃ i j, x = V.str i ∧ y = V.str j ∧ i.length + j.length ≤ sizeLine ∧ Q (V.str (i ++ j)) H) (.str z) (.str z') H Q := ⟨z, z', rfl, rfl, h, q⟩
theorem r_reprB (q : Q (.str (bText b)) H) : rReprB [.bl b] H Q := ⟨b, rfl, q⟩
theorem r_reprD {d : PyData} (hd : Dp K H (.ref p) d) (h1 : d.showable = true) (h2 : d.hasDict = false) (h3 : d.depth ≤ 16) (h4 : d.shown.length ≤ sizeLine) (q : Q (.str d.shown) H) : rReprD K [.ref p] H Q := ⟨p, d, rfl, hd, h1, h2, h3, h4, q⟩
theorem r_eqD {y : V} {d e : PyData} (hd : Dp K H x d) (he : Dp K H y e) (h1 : SeqAt.shaped d = true) (h2 : SeqAt.shaped e = true) (q : Q (.bl (PyData.eqv d e)) H) : rEqD K x y H Q := ⟨d, e, hd, he, h1, h2, q⟩
theorem r_divmod (h : CDiv m k) (q : ∀ p H2, H p = none → Same H H2 → H2 p = some (.tup [.int (m / k), .int (m % k)]) → (∀ b, b ≠ p → H2 b = H b) → Q (.ref p) H2) :
    (fun xs H Q => ∃ i j, xs = [V.int i, V.int j] ∧ CDiv i j ∧ ∀ p, H p = none → Q (V.ref p) (upd H p (.tup [.int (i / j), .int (i % j)]))) [.int m, .int k] H Q :=
  ⟨m, k, rfl, h, fun p hp => q p _ hp (fun b o e => by rw [upd_ne (ne_of_none e hp)]; exact e) upd_same fun b hb => upd_ne hb⟩
theorem r_append {l : Addr} {y : V} (h : H l = some (.lst xs)) (hz : xs.length < sizeLine) (q : Q .non (upd H l (.lst (xs ++ [y])))) : rAppend (.ref l) [y] H Q := ⟨l, xs, y, rfl, rfl, h, hz, q⟩
theorem r_all {a : Addr} {bs : List Bool} (h : SqL K H a (bs.map V.bl)) (q : Q (.bl (bs.all id)) H) : rAll K [.ref a] H Q := ⟨a, bs, rfl, h, q⟩
theorem r_opOwn {C a : Addr} {Ts : List String} {sp : Sp} {E : XK} {y : V} (ha : InsAt C H a) (hy : (∃ b, y = .ref b ∧ InsAt C H b) ∨ ∃ T, plT y = some T ∧ T ∈ Ts) (q : sp [.ref a, y] H Q E) : rOpOwn C Ts sp E (.ref a) y H Q := ⟨a, rfl, ha, hy, q⟩
theorem r_neOwn {C a : Addr} {Ts : List String} {sp : Sp} {E : XK} {y : V} (ha : InsAt C H a) (hy : (∃ b, y = .ref b ∧ InsAt C H b) ∨ ∃ T, plT y = some T ∧ T ∈ Ts) (q : sp [.ref a, y] H (fun v H' => ∃ c, v = .bl c ∧ Q (.bl (!c)) H') E) : rNeOwn C Ts sp E (.ref a) y H Q := ⟨a, rfl, ha, hy, q⟩
theorem r_unOwn {C a : Addr} {sp : Sp} {E : XK} (ha : InsAt C H a) (q : sp [.ref a] H Q E) : rUnOwn C sp E (.ref a) H Q := ⟨a, rfl, ha, q⟩
theorem r_strOwn {C a : Addr} {sp : Sp} {E : XK} (ha : InsAt C H a) (q : sp [.ref a] H (fun v H' => ∃ z, v = .str z ∧ Q v H') E) : rStrOwn C sp E [.ref a] H Q := ⟨a, rfl, ha, q⟩
end

/-! the same, for what a lambda has been opened to -/
section
variable {K : PySem.W.Frag} {H : Hp} {m k : Int} {b : Bool} {p : Addr} {xs : List V}
theorem q_int {A : Int → Prop} {B : Bool → Prop} (q : A m) : (∃ i, [V.int m] = [V.int i] ∧ A i) ∨ ∃ k, [V.int m] = [V.bl k] ∧ B k := .inl ⟨m, rfl, q⟩
theorem q_intB {A : Int → Prop} {B : Bool → Prop} (q : B b) : (∃ i, [V.bl b] = [V.int i] ∧ A i) ∨ ∃ k, [V.bl b] = [V.bl k] ∧ B k := .inr ⟨b, rfl, q⟩
theorem q_1 {A : Int → Prop} (q : A m) : ∃ i, [V.int m] = [V.int i] ∧ A i := ⟨m, rfl, q⟩
theorem q_2 {A : Int → Int → Prop} (q : A m k) : ∃ i j, [V.int m, V.int k] = [V.int i, V.int j] ∧ A i j := ⟨m, k, rfl, q⟩
theorem q_len {A : Addr → List V → Prop} (h : SqL K H p xs) (q : A p xs) : ∃ p' ys, [V.ref p] = [V.ref p'] ∧ (SqL K H p' ys ∨ SqT K H p' ys) ∧ A p' ys := ⟨p, xs, rfl, .inl h, q⟩
theorem q_addS {z z' : Str} {A : Str → Str → Prop} (h : z.length + z'.length ≤ sizeLine) (q : A z z') : ∃ i j, V.str z = V.str i ∧ V.str z' = V.str j ∧ i.length + j.length ≤ sizeLine ∧ A i j := ⟨z, z', rfl, rfl, h, q⟩
theorem q_own {a C dx : Addr} {fs : List (Str × V)} {A : Addr → Prop} (h : H a = some (.ins C dx fs)) (q : A a) : ∃ a' dx fs, V.ref a = .ref a' ∧ H a' = some (.ins C dx fs) ∧ A a' := ⟨a, dx, fs, rfl, h, q⟩
end

/-! ### sizes -/
def Sz (n : Nat) (x : Int) : Prop := x.natAbs < 2 ^ n
theorem Sz.mono {n m : Nat} {x : Int} (h : Sz n x) (hm : n ≤ m) : Sz m x := Nat.lt_of_lt_of_le h (Nat.pow_le_pow_right (by decide) hm)
theorem Sz.log {n m : Nat} {x : Int} (h : Sz n x) (h0 : 0 < n) (hm : n ≤ m) : x.natAbs.log2 < m := Nat.lt_of_lt_of_le (PySem.Flt.log2_lt_of h0 h) hm
theorem Sz.mul {a b : Nat} {x y : Int} (hx : Sz a x) (hy : Sz b y) : Sz (a + b) (x * y) := wide_lt hx hy
theorem Sz.add {a b : Nat} {x y : Int} (hx : Sz a x) (hy : Sz b y) : Sz (max a b + 1) (x + y) := by
  have h1 := hx.mono (Nat.le_max_left a b)
  have h2 := hy.mono (Nat.le_max_right a b)
  unfold Sz at *
  rw [Nat.pow_succ]
  omega
theorem Sz.sub {a b : Nat} {x y : Int} (hx : Sz a x) (hy : Sz b y) : Sz (max a b + 1) (x - y) := by
  have h1 := hx.mono (Nat.le_max_left a b)
  have h2 := hy.mono (Nat.le_max_right a b)
  unfold Sz at *
  rw [Nat.pow_succ]
  omega
theorem Sz.neg {a : Nat} {x : Int} (hx : Sz a x) : Sz a (-x) := by
  unfold Sz at *
  omega
theorem Sz.cm {a b : Nat} {x y : Int} (hx : Sz a x) (hy : Sz b y) (h0 : 0 < a) (h1 : 0 < b) (h : a + b ≤ 1000000) : CMulW x y := wide_mul hx hy h0 h1 h
theorem Sz.le {a : Nat} {x y : Int} (hx : Sz a x) (h : y.natAbs ≤ x.natAbs) : Sz a y := Nat.lt_of_le_of_lt h hx

/-! ### lowest terms -/
/-- the divisor with the bottom's sign -/
def gd (t b : Int) : Int := if b < 0 then -((Nat.gcd t.natAbs b.natAbs : Nat) : Int) else ((Nat.gcd t.natAbs b.natAbs : Nat) : Int)
def low (t b : Int) : Int × Int := (t.fdiv (gd t b), b.fdiv (gd t b))
theorem gd_dvd (t b : Int) : gd t b ∣ t ∧ gd t b ∣ b := by
  have h1 : ((Nat.gcd t.natAbs b.natAbs : Nat) : Int) ∣ t := Int.ofNat_dvd_left.mpr (Nat.gcd_dvd_left _ _)
  have h2 : ((Nat.gcd t.natAbs b.natAbs : Nat) : Int) ∣ b := Int.ofNat_dvd_left.mpr (Nat.gcd_dvd_right _ _)
  unfold gd
  split
  · exact ⟨Int.neg_dvd.mpr h1, Int.neg_dvd.mpr h2⟩
  · exact ⟨h1, h2⟩
theorem gd_ne {t b : Int} (h : b ≠ 0) : gd t b ≠ 0 := by
  have h1 : 0 < Nat.gcd t.natAbs b.natAbs := Nat.gcd_pos_of_pos_right _ (by omega)
  unfold gd
  split <;> omega
theorem gd_abs (t b : Int) : (gd t b).natAbs = Nat.gcd t.natAbs b.natAbs := by
  unfold gd
  split <;> omega
theorem low_mul {t b : Int} (h : b ≠ 0) : (low t b).1 * gd t b = t ∧ (low t b).2 * gd t b = b := by
  obtain ⟨⟨c, hc⟩, ⟨d, hd⟩⟩ := gd_dvd t b
  have g0 := gd_ne (t := t) h
  unfold low
  constructor
  · show t.fdiv (gd t b) * gd t b = t
    have e : t.fdiv (gd t b) = c := by
      have z := Int.mul_fdiv_cancel_left c g0
      rw [← hc] at z
      exact z
    rw [e, Int.mul_comm]; exact hc.symm
  · show b.fdiv (gd t b) * gd t b = b
    have e : b.fdiv (gd t b) = d := by
      have z := Int.mul_fdiv_cancel_left d g0
      rw [← hd] at z
      exact z
    rw [e, Int.mul_comm]; exact hd.symm
theorem low_pos {t b : Int} (h : b ≠ 0) : 0 < (low t b).2 := by
  have ⟨_, h2⟩ := low_mul (t := t) h
  have hp : 0 < Nat.gcd t.natAbs b.natAbs := Nat.gcd_pos_of_pos_right _ (by omega)
  by_cases hb : b < 0
  · have hg : gd t b < 0 := by unfold gd; rw [if_pos hb]; omega
    by_cases q : 0 < (low t b).2
    · exact q
    · have := Int.mul_nonneg_of_nonpos_of_nonpos (Int.not_lt.mp q) (Int.le_of_lt hg)
      omega
  · have hg : 0 < gd t b := by unfold gd; rw [if_neg hb]; omega
    by_cases q : 0 < (low t b).2
    · exact q
    · have := Int.mul_nonpos_of_nonpos_of_nonneg (Int.not_lt.mp q) (Int.le_of_lt hg)
      omega
theorem low_gcd {t b : Int} (h : b ≠ 0) : Nat.gcd (low t b).1.natAbs (low t b).2.natAbs = 1 := by
  have ⟨h1, h2⟩ := low_mul (t := t) h
  have hp : 0 < Nat.gcd t.natAbs b.natAbs := Nat.gcd_pos_of_pos_right _ (by omega)
  have e1 : t.natAbs = (low t b).1.natAbs * Nat.gcd t.natAbs b.natAbs := by
    conv => lhs; rw [← h1]
    rw [Int.natAbs_mul, gd_abs]
  have e2 : b.natAbs = (low t b).2.natAbs * Nat.gcd t.natAbs b.natAbs := by
    conv => lhs; rw [← h2]
    rw [Int.natAbs_mul, gd_abs]
  have e3 : Nat.gcd t.natAbs b.natAbs = Nat.gcd (low t b).1.natAbs (low t b).2.natAbs * Nat.gcd t.natAbs b.natAbs := by
    rw [← Nat.gcd_mul_right, ← e1, ← e2]
  exact Nat.eq_of_mul_eq_mul_right hp (by rw [Nat.one_mul]; exact e3.symm)
/-- the two fractions are the same number: their lowest terms are the same -/
theorem low_cross {t b t' b' : Int} (h : b ≠ 0) (h' : b' ≠ 0) (e : t * b' = t' * b) : low t b = low t' b' := by
  have ⟨h1, h2⟩ := low_mul (t := t) h
  have ⟨h1', h2'⟩ := low_mul (t := t') h'
  have p := low_pos (t := t) h
  have p' := low_pos (t := t') h'
  have c := low_gcd (t := t) h
  have c' := low_gcd (t := t') h'
  have g0 := gd_ne (t := t) h
  have g0' := gd_ne (t := t') h'
  have key : (low t b).1 * (low t' b').2 = (low t' b').1 * (low t b).2 := by
    have e2 : ((low t b).1 * (low t' b').2) * (gd t b * gd t' b') = ((low t' b').1 * (low t b).2) * (gd t b * gd t' b') := by
      have a1 : ((low t b).1 * gd t b) * ((low t' b').2 * gd t' b') = ((low t' b').1 * gd t' b') * ((low t b).2 * gd t b) := by rw [h1, h2', h1', h2]; exact e
      have r1 : ((low t b).1 * (low t' b').2) * (gd t b * gd t' b') = ((low t b).1 * gd t b) * ((low t' b').2 * gd t' b') := by grind
      have r2 : ((low t' b').1 * (low t b).2) * (gd t b * gd t' b') = ((low t' b').1 * gd t' b') * ((low t b).2 * gd t b) := by grind
      rw [r1, r2, a1]
    exact Int.eq_of_mul_eq_mul_right (Int.mul_ne_zero g0 g0') e2
  have kn : (low t b).1.natAbs * (low t' b').2.natAbs = (low t' b').1.natAbs * (low t b).2.natAbs := by
    rw [← Int.natAbs_mul, ← Int.natAbs_mul, key]
  have d1 : (low t b).2.natAbs ∣ (low t' b').2.natAbs := by
    refine Nat.Coprime.dvd_of_dvd_mul_left (Nat.Coprime.symm c) ?_
    exact ⟨(low t' b').1.natAbs, by rw [kn, Nat.mul_comm]⟩
  have d2 : (low t' b').2.natAbs ∣ (low t b).2.natAbs := by
    refine Nat.Coprime.dvd_of_dvd_mul_left (Nat.Coprime.symm c') ?_
    exact ⟨(low t b).1.natAbs, by rw [← kn, Nat.mul_comm]⟩
  have en : (low t b).2 = (low t' b').2 := by
    have := Nat.dvd_antisymm d1 d2
    omega
  have em : (low t b).1 = (low t' b').1 := by
    rw [en] at key
    exact Int.eq_of_mul_eq_mul_right (by omega) key
  exact Prod.ext em en
theorem low_one (t : Int) : low t 1 = (t, 1) := by
  unfold low gd
  simp
theorem low_abs {t b : Int} (h : b ≠ 0) : (low t b).1.natAbs ≤ t.natAbs ∧ (low t b).2.natAbs ≤ b.natAbs := by
  have ⟨h1, h2⟩ := low_mul (t := t) h
  have hp : 0 < Nat.gcd t.natAbs b.natAbs := Nat.gcd_pos_of_pos_right _ (by omega)
  constructor
  · conv => rhs; rw [← h1]
    rw [Int.natAbs_mul, gd_abs]
    exact Nat.le_mul_of_pos_right _ hp
  · conv => rhs; rw [← h2]
    rw [Int.natAbs_mul, gd_abs]
    exact Nat.le_mul_of_pos_right _ hp
end LL
/-! LR3: names by their slots. -/
namespace LL
open PySem PySem.Spec PyProof.Rows L2
theorem r_v0 {v : V} {σ : L2.St} {H : Hp} {Q : VK} (q : Q v H) : tVar 0 (some v :: σ) H Q := ⟨v, rfl, q⟩
theorem r_s0 {y : Option V} {v : V} {σ : L2.St} {H : Hp} {Q : L2.St → Hp → Prop} (q : Q (some v :: σ) H) : gName 0 v (y :: σ) H Q := q
theorem r_v1 {x0 : Option V} {v : V} {σ : L2.St} {H : Hp} {Q : VK} (q : Q v H) : tVar 1 (x0 :: some v :: σ) H Q := ⟨v, rfl, q⟩
theorem r_s1 {x0 : Option V} {y : Option V} {v : V} {σ : L2.St} {H : Hp} {Q : L2.St → Hp → Prop} (q : Q (x0 :: some v :: σ) H) : gName 1 v (x0 :: y :: σ) H Q := q
theorem r_v2 {x0 x1 : Option V} {v : V} {σ : L2.St} {H : Hp} {Q : VK} (q : Q v H) : tVar 2 (x0 :: x1 :: some v :: σ) H Q := ⟨v, rfl, q⟩
theorem r_s2 {x0 x1 : Option V} {y : Option V} {v : V} {σ : L2.St} {H : Hp} {Q : L2.St → Hp → Prop} (q : Q (x0 :: x1 :: some v :: σ) H) : gName 2 v (x0 :: x1 :: y :: σ) H Q := q
theorem r_v3 {x0 x1 x2 : Option V} {v : V} {σ : L2.St} {H : Hp} {Q : VK} (q : Q v H) : tVar 3 (x0 :: x1 :: x2 :: some v :: σ) H Q := ⟨v, rfl, q⟩
theorem r_s3 {x0 x1 x2 : Option V} {y : Option V} {v : V} {σ : L2.St} {H : Hp} {Q : L2.St → Hp → Prop} (q : Q (x0 :: x1 :: x2 :: some v :: σ) H) : gName 3 v (x0 :: x1 :: x2 :: y :: σ) H Q := q
theorem r_v4 {x0 x1 x2 x3 : Option V} {v : V} {σ : L2.St} {H : Hp} {Q : VK} (q : Q v H) : tVar 4 (x0 :: x1 :: x2 :: x3 :: some v :: σ) H Q := ⟨v, rfl, q⟩
theorem r_s4 {x0 x1 x2 x3 : Option V} {y : Option V} {v : V} {σ : L2.St} {H : Hp} {Q : L2.St → Hp → Prop} (q : Q (x0 :: x1 :: x2 :: x3 :: some v :: σ) H) : gName 4 v (x0 :: x1 :: x2 :: x3 :: y :: σ) H Q := q
theorem r_v5 {x0 x1 x2 x3 x4 : Option V} {v : V} {σ : L2.St} {H : Hp} {Q : VK} (q : Q v H) : tVar 5 (x0 :: x1 :: x2 :: x3 :: x4 :: some v :: σ) H Q := ⟨v, rfl, q⟩
theorem r_s5 {x0 x1 x2 x3 x4 : Option V} {y : Option V} {v : V} {σ : L2.St} {H : Hp} {Q : L2.St → Hp → Prop} (q : Q (x0 :: x1 :: x2 :: x3 :: x4 :: some v :: σ) H) : gName 5 v (x0 :: x1 :: x2 :: x3 :: x4 :: y :: σ) H Q := q
theorem r_v6 {x0 x1 x2 x3 x4 x5 : Option V} {v : V} {σ : L2.St} {H : Hp} {Q : VK} (q : Q v H) : tVar 6 (x0 :: x1 :: x2 :: x3 :: x4 :: x5 :: some v :: σ) H Q := ⟨v, rfl, q⟩
theorem r_s6 {x0 x1 x2 x3 x4 x5 : Option V} {y : Option V} {v : V} {σ : L2.St} {H : Hp} {Q : L2.St → Hp → Prop} (q : Q (x0 :: x1 :: x2 :: x3 :: x4 :: x5 :: some v :: σ) H) : gName 6 v (x0 :: x1 :: x2 :: x3 :: x4 :: x5 :: y :: σ) H Q := q
theorem r_v7 {x0 x1 x2 x3 x4 x5 x6 : Option V} {v : V} {σ : L2.St} {H : Hp} {Q : VK} (q : Q v H) : tVar 7 (x0 :: x1 :: x2 :: x3 :: x4 :: x5 :: x6 :: some v :: σ) H Q := ⟨v, rfl, q⟩
theorem r_s7 {x0 x1 x2 x3 x4 x5 x6 : Option V} {y : Option V} {v : V} {σ : L2.St} {H : Hp} {Q : L2.St → Hp → Prop} (q : Q (x0 :: x1 :: x2 :: x3 :: x4 :: x5 :: x6 :: some v :: σ) H) : gName 7 v (x0 :: x1 :: x2 :: x3 :: x4 :: x5 :: x6 :: y :: σ) H Q := q
theorem r_v8 {x0 x1 x2 x3 x4 x5 x6 x7 : Option V} {v : V} {σ : L2.St} {H : Hp} {Q : VK} (q : Q v H) : tVar 8 (x0 :: x1 :: x2 :: x3 :: x4 :: x5 :: x6 :: x7 :: some v :: σ) H Q := ⟨v, rfl, q⟩
theorem r_s8 {x0 x1 x2 x3 x4 x5 x6 x7 : Option V} {y : Option V} {v : V} {σ : L2.St} {H : Hp} {Q : L2.St → Hp → Prop} (q : Q (x0 :: x1 :: x2 :: x3 :: x4 :: x5 :: x6 :: x7 :: some v :: σ) H) : gName 8 v (x0 :: x1 :: x2 :: x3 :: x4 :: x5 :: x6 :: x7 :: y :: σ) H Q := q
theorem r_v9 {x0 x1 x2 x3 x4 x5 x6 x7 x8 : Option V} {v : V} {σ : L2.St} {H : Hp} {Q : VK} (q : Q v H) : tVar 9 (x0 :: x1 :: x2 :: x3 :: x4 :: x5 :: x6 :: x7 :: x8 :: some v :: σ) H Q := ⟨v, rfl, q⟩
theorem r_s9 {x0 x1 x2 x3 x4 x5 x6 x7 x8 : Option V} {y : Option V} {v : V} {σ : L2.St} {H : Hp} {Q : L2.St → Hp → Prop} (q : Q (x0 :: x1 :: x2 :: x3 :: x4 :: x5 :: x6 :: x7 :: x8 :: some v :: σ) H) : gName 9 v (x0 :: x1 :: x2 :: x3 :: x4 :: x5 :: x6 :: x7 :: x8 :: y :: σ) H Q := q
theorem r_v10 {x0 x1 x2 x3 x4 x5 x6 x7 x8 x9 : Option V} {v : V} {σ : L2.St} {H : Hp} {Q : VK} (q : Q v H) : tVar 10 (x0 :: x1 :: x2 :: x3 :: x4 :: x5 :: x6 :: x7 :: x8 :: x9 :: some v :: σ) H Q := ⟨v, rfl, q⟩
theorem r_s10 {x0 x1 x2 x3 x4 x5 x6 x7 x8 x9 : Option V} {y : Option V} {v : V} {σ : L2.St} {H : Hp} {Q : L2.St → Hp → Prop} (q : Q (x0 :: x1 :: x2 :: x3 :: x4 :: x5 :: x6 :: x7 :: x8 :: x9 :: some v :: σ) H) : gName 10 v (x0 :: x1 :: x2 :: x3 :: x4 :: x5 :: x6 :: x7 :: x8 :: x9 :: y :: σ) H Q := q
theorem r_v11 {x0 x1 x2 x3 x4 x5 x6 x7 x8 x9 x10 : Option V} {v : V} {σ : L2.St} {H : Hp} {Q : VK} (q : Q v H) : tVar 11 (x0 :: x1 :: x2 :: x3 :: x4 :: x5 :: x6 :: x7 :: x8 :: x9 :: x10 :: some v :: σ) H Q := ⟨v, rfl, q⟩
theorem r_s11 {x0 x1 x2 x3 x4 x5 x6 x7 x8 x9 x10 : Option V} {y : Option V} {v : V} {σ : L2.St} {H : Hp} {Q : L2.St → Hp → Prop} (q : Q (x0 :: x1 :: x2 :: x3 :: x4 :: x5 :: x6 :: x7 :: x8 :: x9 :: x10 :: some v :: σ) H) : gName 11 v (x0 :: x1 :: x2 :: x3 :: x4 :: x5 :: x6 :: x7 :: x8 :: x9 :: x10 :: y :: σ) H Q := q
theorem r_v12 {x0 x1 x2 x3 x4 x5 x6 x7 x8 x9 x10 x11 : Option V} {v : V} {σ : L2.St} {H : Hp} {Q : VK} (q : Q v H) : tVar 12 (x0 :: x1 :: x2 :: x3 :: x4 :: x5 :: x6 :: x7 :: x8 :: x9 :: x10 :: x11 :: some v :: σ) H Q := ⟨v, rfl, q⟩
theorem r_s12 {x0 x1 x2 x3 x4 x5 x6 x7 x8 x9 x10 x11 : Option V} {y : Option V} {v : V} {σ : L2.St} {H : Hp} {Q : L2.St → Hp → Prop} (q : Q (x0 :: x1 :: x2 :: x3 :: x4 :: x5 :: x6 :: x7 :: x8 :: x9 :: x10 :: x11 :: some v :: σ) H) : gName 12 v (x0 :: x1 :: x2 :: x3 :: x4 :: x5 :: x6 :: x7 :: x8 :: x9 :: x10 :: x11 :: y :: σ) H Q := q
theorem r_v13 {x0 x1 x2 x3 x4 x5 x6 x7 x8 x9 x10 x11 x12 : Option V} {v : V} {σ : L2.St} {H : Hp} {Q : VK} (q : Q v H) : tVar 13 (x0 :: x1 :: x2 :: x3 :: x4 :: x5 :: x6 :: x7 :: x8 :: x9 :: x10 :: x11 :: x12 :: some v :: σ) H Q := ⟨v, rfl, q⟩
theorem r_s13 {x0 x1 x2 x3 x4 x5 x6 x7 x8 x9 x10 x11 x12 : Option V} {y : Option V} {v : V} {σ : L2.St} {H : Hp} {Q : L2.St → Hp → Prop} (q : Q (x0 :: x1 :: x2 :: x3 :: x4 :: x5 :: x6 :: x7 :: x8 :: x9 :: x10 :: x11 :: x12 :: some v :: σ) H) : gName 13 v (x0 :: x1 :: x2 :: x3 :: x4 :: x5 :: x6 :: x7 :: x8 :: x9 :: x10 :: x11 :: x12 :: y :: σ) H Q := q
theorem r_v14 {x0 x1 x2 x3 x4 x5 x6 x7 x8 x9 x10 x11 x12 x13 : Option V} {v : V} {σ : L2.St} {H : Hp} {Q : VK} (q : Q v H) : tVar 14 (x0 :: x1 :: x2 :: x3 :: x4 :: x5 :: x6 :: x7 :: x8 :: x9 :: x10 :: x11 :: x12 :: x13 :: some v :: σ) H Q := ⟨v, rfl, q⟩
theorem r_s14 {x0 x1 x2 x3 x4 x5 x6 x7 x8 x9 x10 x11 x12 x13 : Option V} {y : Option V} {v : V} {σ : L2.St} {H : Hp} {Q : L2.St → Hp → Prop} (q : Q (x0 :: x1 :: x2 :: x3 :: x4 :: x5 :: x6 :: x7 :: x8 :: x9 :: x10 :: x11 :: x12 :: x13 :: some v :: σ) H) : gName 14 v (x0 :: x1 :: x2 :: x3 :: x4 :: x5 :: x6 :: x7 :: x8 :: x9 :: x10 :: x11 :: x12 :: x13 :: y :: σ) H Q := q
theorem r_v15 {x0 x1 x2 x3 x4 x5 x6 x7 x8 x9 x10 x11 x12 x13 x14 : Option V} {v : V} {σ : L2.St} {H : Hp} {Q : VK} (q : Q v H) : tVar 15 (x0 :: x1 :: x2 :: x3 :: x4 :: x5 :: x6 :: x7 :: x8 :: x9 :: x10 :: x11 :: x12 :: x13 :: x14 :: some v :: σ) H Q := ⟨v, rfl, q⟩
theorem r_s15 {x0 x1 x2 x3 x4 x5 x6 x7 x8 x9 x10 x11 x12 x13 x14 : Option V} {y : Option V} {v : V} {σ : L2.St} {H : Hp} {Q : L2.St → Hp → Prop} (q : Q (x0 :: x1 :: x2 :: x3 :: x4 :: x5 :: x6 :: x7 :: x8 :: x9 :: x10 :: x11 :: x12 :: x13 :: x14 :: some v :: σ) H) : gName 15 v (x0 :: x1 :: x2 :: x3 :: x4 :: x5 :: x6 :: x7 :: x8 :: x9 :: x10 :: x11 :: x12 :: x13 :: x14 :: y :: σ) H Q := q
theorem r_v16 {x0 x1 x2 x3 x4 x5 x6 x7 x8 x9 x10 x11 x12 x13 x14 x15 : Option V} {v : V} {σ : L2.St} {H : Hp} {Q : VK} (q : Q v H) : tVar 16 (x0 :: x1 :: x2 :: x3 :: x4 :: x5 :: x6 :: x7 :: x8 :: x9 :: x10 :: x11 :: x12 :: x13 :: x14 :: x15 :: some v :: σ) H Q := ⟨v, rfl, q⟩
theorem r_s16 {x0 x1 x2 x3 x4 x5 x6 x7 x8 x9 x10 x11 x12 x13 x14 x15 : Option V} {y : Option V} {v : V} {σ : L2.St} {H : Hp} {Q : L2.St → Hp → Prop} (q : Q (x0 :: x1 :: x2 :: x3 :: x4 :: x5 :: x6 :: x7 :: x8 :: x9 :: x10 :: x11 :: x12 :: x13 :: x14 :: x15 :: some v :: σ) H) : gName 16 v (x0 :: x1 :: x2 :: x3 :: x4 :: x5 :: x6 :: x7 :: x8 :: x9 :: x10 :: x11 :: x12 :: x13 :: x14 :: x15 :: y :: σ) H Q := q
theorem r_v17 {x0 x1 x2 x3 x4 x5 x6 x7 x8 x9 x10 x11 x12 x13 x14 x15 x16 : Option V} {v : V} {σ : L2.St} {H : Hp} {Q : VK} (q : Q v H) : tVar 17 (x0 :: x1 :: x2 :: x3 :: x4 :: x5 :: x6 :: x7 :: x8 :: x9 :: x10 :: x11 :: x12 :: x13 :: x14 :: x15 :: x16 :: some v :: σ) H Q := ⟨v, rfl, q⟩
theorem r_s17 {x0 x1 x2 x3 x4 x5 x6 x7 x8 x9 x10 x11 x12 x13 x14 x15 x16 : Option V} {y : Option V} {v : V} {σ : L2.St} {H : Hp} {Q : L2.St → Hp → Prop} (q : Q (x0 :: x1 :: x2 :: x3 :: x4 :: x5 :: x6 :: x7 :: x8 :: x9 :: x10 :: x11 :: x12 :: x13 :: x14 :: x15 :: x16 :: some v :: σ) H) : gName 17 v (x0 :: x1 :: x2 :: x3 :: x4 :: x5 :: x6 :: x7 :: x8 :: x9 :: x10 :: x11 :: x12 :: x13 :: x14 :: x15 :: x16 :: y :: σ) H Q := q
theorem r_v18 {x0 x1 x2 x3 x4 x5 x6 x7 x8 x9 x10 x11 x12 x13 x14 x15 x16 x17 : Option V} {v : V} {σ : L2.St} {H : Hp} {Q : VK} (q : Q v H) : tVar 18 (x0 :: x1 :: x2 :: x3 :: x4 :: x5 :: x6 :: x7 :: x8 :: x9 :: x10 :: x11 :: x12 :: x13 :: x14 :: x15 :: x16 :: x17 :: some v :: σ) H Q := ⟨v, rfl, q⟩
theorem r_s18 {x0 x1 x2 x3 x4 x5 x6 x7 x8 x9 x10 x11 x12 x13 x14 x15 x16 x17 : Option V} {y : Option V} {v : V} {σ : L2.St} {H : Hp} {Q : L2.St → Hp → Prop} (q : Q (x0 :: x1 :: x2 :: x3 :: x4 :: x5 :: x6 :: x7 :: x8 :: x9 :: x10 :: x11 :: x12 :: x13 :: x14 :: x15 :: x16 :: x17 :: some v :: σ) H) : gName 18 v (x0 :: x1 :: x2 :: x3 :: x4 :: x5 :: x6 :: x7 :: x8 :: x9 :: x10 :: x11 :: x12 :: x13 :: x14 :: x15 :: x16 :: x17 :: y :: σ) H Q := q
theorem r_v19 {x0 x1 x2 x3 x4 x5 x6 x7 x8 x9 x10 x11 x12 x13 x14 x15 x16 x17 x18 : Option V} {v : V} {σ : L2.St} {H : Hp} {Q : VK} (q : Q v H) : tVar 19 (x0 :: x1 :: x2 :: x3 :: x4 :: x5 :: x6 :: x7 :: x8 :: x9 :: x10 :: x11 :: x12 :: x13 :: x14 :: x15 :: x16 :: x17 :: x18 :: some v :: σ) H Q := ⟨v, rfl, q⟩
theorem r_s19 {x0 x1 x2 x3 x4 x5 x6 x7 x8 x9 x10 x11 x12 x13 x14 x15 x16 x17 x18 : Option V} {y : Option V} {v : V} {σ : L2.St} {H : Hp} {Q : L2.St → Hp → Prop} (q : Q (x0 :: x1 :: x2 :: x3 :: x4 :: x5 :: x6 :: x7 :: x8 :: x9 :: x10 :: x11 :: x12 :: x13 :: x14 :: x15 :: x16 :: x17 :: x18 :: some v :: σ) H) : gName 19 v (x0 :: x1 :: x2 :: x3 :: x4 :: x5 :: x6 :: x7 :: x8 :: x9 :: x10 :: x11 :: x12 :: x13 :: x14 :: x15 :: x16 :: x17 :: x18 :: y :: σ) H Q := q
theorem r_v20 {x0 x1 x2 x3 x4 x5 x6 x7 x8 x9 x10 x11 x12 x13 x14 x15 x16 x17 x18 x19 : Option V} {v : V} {σ : L2.St} {H : Hp} {Q : VK} (q : Q v H) : tVar 20 (x0 :: x1 :: x2 :: x3 :: x4 :: x5 :: x6 :: x7 :: x8 :: x9 :: x10 :: x11 :: x12 :: x13 :: x14 :: x15 :: x16 :: x17 :: x18 :: x19 :: some v :: σ) H Q := ⟨v, rfl, q⟩
theorem r_s20 {x0 x1 x2 x3 x4 x5 x6 x7 x8 x9 x10 x11 x12 x13 x14 x15 x16 x17 x18 x19 : Option V} {y : Option V} {v : V} {σ : L2.St} {H : Hp} {Q : L2.St → Hp → Prop} (q : Q (x0 :: x1 :: x2 :: x3 :: x4 :: x5 :: x6 :: x7 :: x8 :: x9 :: x10 :: x11 :: x12 :: x13 :: x14 :: x15 :: x16 :: x17 :: x18 :: x19 :: some v :: σ) H) : gName 20 v (x0 :: x1 :: x2 :: x3 :: x4 :: x5 :: x6 :: x7 :: x8 :: x9 :: x10 :: x11 :: x12 :: x13 :: x14 :: x15 :: x16 :: x17 :: x18 :: x19 :: y :: σ) H Q := q
theorem r_v21 {x0 x1 x2 x3 x4 x5 x6 x7 x8 x9 x10 x11 x12 x13 x14 x15 x16 x17 x18 x19 x20 : Option V} {v : V} {σ : L2.St} {H : Hp} {Q : VK} (q : Q v H) : tVar 21 (x0 :: x1 :: x2 :: x3 :: x4 :: x5 :: x6 :: x7 :: x8 :: x9 :: x10 :: x11 :: x12 :: x13 :: x14 :: x15 :: x16 :: x17 :: x18 :: x19 :: x20 :: some v :: σ) H Q := ⟨v, rfl, q⟩
theorem r_s21 {x0 x1 x2 x3 x4 x5 x6 x7 x8 x9 x10 x11 x12 x13 x14 x15 x16 x17 x18 x19 x20 : Option V} {y : Option V} {v : V} {σ : L2.St} {H : Hp} {Q : L2.St → Hp → Prop} (q : Q (x0 :: x1 :: x2 :: x3 :: x4 :: x5 :: x6 :: x7 :: x8 :: x9 :: x10 :: x11 :: x12 :: x13 :: x14 :: x15 :: x16 :: x17 :: x18 :: x19 :: x20 :: some v :: σ) H) : gName 21 v (x0 :: x1 :: x2 :: x3 :: x4 :: x5 :: x6 :: x7 :: x8 :: x9 :: x10 :: x11 :: x12 :: x13 :: x14 :: x15 :: x16 :: x17 :: x18 :: x19 :: x20 :: y :: σ) H Q := q
theorem r_v22 {x0 x1 x2 x3 x4 x5 x6 x7 x8 x9 x10 x11 x12 x13 x14 x15 x16 x17 x18 x19 x20 x21 : Option V} {v : V} {σ : L2.St} {H : Hp} {Q : VK} (q : Q v H) : tVar 22 (x0 :: x1 :: x2 :: x3 :: x4 :: x5 :: x6 :: x7 :: x8 :: x9 :: x10 :: x11 :: x12 :: x13 :: x14 :: x15 :: x16 :: x17 :: x18 :: x19 :: x20 :: x21 :: some v :: σ) H Q := ⟨v, rfl, q⟩
theorem r_s22 {x0 x1 x2 x3 x4 x5 x6 x7 x8 x9 x10 x11 x12 x13 x14 x15 x16 x17 x18 x19 x20 x21 : Option V} {y : Option V} {v : V} {σ : L2.St} {H : Hp} {Q : L2.St → Hp → Prop} (q : Q (x0 :: x1 :: x2 :: x3 :: x4 :: x5 :: x6 :: x7 :: x8 :: x9 :: x10 :: x11 :: x12 :: x13 :: x14 :: x15 :: x16 :: x17 :: x18 :: x19 :: x20 :: x21 :: some v :: σ) H) : gName 22 v (x0 :: x1 :: x2 :: x3 :: x4 :: x5 :: x6 :: x7 :: x8 :: x9 :: x10 :: x11 :: x12 :: x13 :: x14 :: x15 :: x16 :: x17 :: x18 :: x19 :: x20 :: x21 :: y :: σ) H Q := q
theorem r_v23 {x0 x1 x2 x3 x4 x5 x6 x7 x8 x9 x10 x11 x12 x13 x14 x15 x16 x17 x18 x19 x20 x21 x22 : Option V} {v : V} {σ : L2.St} {H : Hp} {Q : VK} (q : Q v H) : tVar 23 (x0 :: x1 :: x2 :: x3 :: x4 :: x5 :: x6 :: x7 :: x8 :: x9 :: x10 :: x11 :: x12 :: x13 :: x14 :: x15 :: x16 :: x17 :: x18 :: x19 :: x20 :: x21 :: x22 :: some v :: σ) H Q := ⟨v, rfl, q⟩
theorem r_s23 {x0 x1 x2 x3 x4 x5 x6 x7 x8 x9 x10 x11 x12 x13 x14 x15 x16 x17 x18 x19 x20 x21 x22 : Option V} {y : Option V} {v : V} {σ : L2.St} {H : Hp} {Q : L2.St → Hp → Prop} (q : Q (x0 :: x1 :: x2 :: x3 :: x4 :: x5 :: x6 :: x7 :: x8 :: x9 :: x10 :: x11 :: x12 :: x13 :: x14 :: x15 :: x16 :: x17 :: x18 :: x19 :: x20 :: x21 :: x22 :: some v :: σ) H) : gName 23 v (x0 :: x1 :: x2 :: x3 :: x4 :: x5 :: x6 :: x7 :: x8 :: x9 :: x10 :: x11 :: x12 :: x13 :: x14 :: x15 :: x16 :: x17 :: x18 :: x19 :: x20 :: x21 :: x22 :: y :: σ) H Q := q
theorem r_v24 {x0 x1 x2 x3 x4 x5 x6 x7 x8 x9 x10 x11 x12 x13 x14 x15 x16 x17 x18 x19 x20 x21 x22 x23 : Option V} {v : V} {σ : L2.St} {H : Hp} {Q : VK} (q : Q v H) : tVar 24 (x0 :: x1 :: x2 :: x3 :: x4 :: x5 :: x6 :: x7 :: x8 :: x9 :: x10 :: x11 :: x12 :: x13 :: x14 :: x15 :: x16 :: x17 :: x18 :: x19 :: x20 :: x21 :: x22 :: x23 :: some v :: σ) H Q := ⟨v, rfl, q⟩
theorem r_s24 {x0 x1 x2 x3 x4 x5 x6 x7 x8 x9 x10 x11 x12 x13 x14 x15 x16 x17 x18 x19 x20 x21 x22 x23 : Option V} {y : Option V} {v : V} {σ : L2.St} {H : Hp} {Q : L2.St → Hp → Prop} (q : Q (x0 :: x1 :: x2 :: x3 :: x4 :: x5 :: x6 :: x7 :: x8 :: x9 :: x10 :: x11 :: x12 :: x13 :: x14 :: x15 :: x16 :: x17 :: x18 :: x19 :: x20 :: x21 :: x22 :: x23 :: some v :: σ) H) : gName 24 v (x0 :: x1 :: x2 :: x3 :: x4 :: x5 :: x6 :: x7 :: x8 :: x9 :: x10 :: x11 :: x12 :: x13 :: x14 :: x15 :: x16 :: x17 :: x18 :: x19 :: x20 :: x21 :: x22 :: x23 :: y :: σ) H Q := q
theorem r_v25 {x0 x1 x2 x3 x4 x5 x6 x7 x8 x9 x10 x11 x12 x13 x14 x15 x16 x17 x18 x19 x20 x21 x22 x23 x24 : Option V} {v : V} {σ : L2.St} {H : Hp} {Q : VK} (q : Q v H) : tVar 25 (x0 :: x1 :: x2 :: x3 :: x4 :: x5 :: x6 :: x7 :: x8 :: x9 :: x10 :: x11 :: x12 :: x13 :: x14 :: x15 :: x16 :: x17 :: x18 :: x19 :: x20 :: x21 :: x22 :: x23 :: x24 :: some v :: σ) H Q := ⟨v, rfl, q⟩
theorem r_s25 {x0 x1 x2 x3 x4 x5 x6 x7 x8 x9 x10 x11 x12 x13 x14 x15 x16 x17 x18 x19 x20 x21 x22 x23 x24 : Option V} {y : Option V} {v : V} {σ : L2.St} {H : Hp} {Q : L2.St → Hp → Prop} (q : Q (x0 :: x1 :: x2 :: x3 :: x4 :: x5 :: x6 :: x7 :: x8 :: x9 :: x10 :: x11 :: x12 :: x13 :: x14 :: x15 :: x16 :: x17 :: x18 :: x19 :: x20 :: x21 :: x22 :: x23 :: x24 :: some v :: σ) H) : gName 25 v (x0 :: x1 :: x2 :: x3 :: x4 :: x5 :: x6 :: x7 :: x8 :: x9 :: x10 :: x11 :: x12 :: x13 :: x14 :: x15 :: x16 :: x17 :: x18 :: x19 :: x20 :: x21 :: x22 :: x23 :: x24 :: y :: σ) H Q := q
theorem r_nT {A B : Prop} (q : B) : if (!true) = true then A else B := by
  rw [Bool.not_true, if_neg Bool.false_ne_true]; exact q
theorem r_nF {A B : Prop} (q : A) : if (!false) = true then A else B := by
  rw [Bool.not_false, if_pos rfl]; exact q
/-- a field read of a known instance -/
theorem r_fldI {K : PySem.W.Frag} {H : Hp} {Q : VK} {a C dx : Addr} {fs : List (Str × V)} {f : Str} {v : V} (h : H a = some (.ins C dx fs)) (c : Cls K C) (na : NoAttr K C f) (e : fs.lookup f = some v) (q : Q v H) :
    ∃ a' C dx fs v, V.ref a = .ref a' ∧ H a' = some (.ins C dx fs) ∧ Cls K C ∧ NoAttr K C f ∧ fs.lookup f = some v ∧ Q v H := ⟨a, C, dx, fs, v, rfl, h, c, na, e, q⟩
end LL
/-! LR4: loops, comprehensions; texts and what repr of lists shows. -/
namespace LL
open PySem PySem.Spec PyProof.Rows L2
section
variable {σ : L2.St} {H H1 : Hp} {Q : VK} {ta tl : TA} {te tx : TE} {g : TG} {tb : TS} {n : L2.St → Hp → Prop} {r : VK} {b c : L2.St → Hp → Prop} {tt : TT} {is : List Nat} {K : PySem.W.Frag} {wi : TI} {R : It → Hp → Prop} {D : Addr} {Qd : Hp → Prop}
def ForK (g : TG) (tb : TS) (n : L2.St → Hp → Prop) (r : VK) (σ : L2.St) (J : It) (H1 : Hp) : Prop := ∃ W : Nat → Nat → L2.St → Hp → Prop, (∃ m, W 0 m σ H1) ∧ ∀ i m σ H, W i m σ H →
  (J.stop i H ∧ n σ H) ∨ (J.go i H ∧ ∃ N : L2.St → Hp → Prop, (∀ σ' H', N σ' H' → ∃ m', m' < m ∧ W (i + 1) m' σ' H') ∧ ∀ x H', J.yld i H x H' → g x σ H' fun σ2 H2 => tb { nx := N, rt := r, bk := n, ct := N } σ2 H2)
theorem r_for (q : wi σ H fun J H1 => ForK g tb n r σ J H1) : tFor wi g tb { nx := n, rt := r, bk := b, ct := c } σ H := q
theorem r_rng1 (q : ta σ H fun vs H1 => ∃ j : Int, vs = [.int j] ∧ -(2 ^ 62) ≤ j ∧ j < 2 ^ 62 ∧ R (Itr 0 j.toNat) H1) : iRng1 ta σ H R := q
theorem r_itl (q : tx σ H fun x H1 => ∃ a, x = .ref a ∧ (∃ xs, SqL K H1 a xs) ∧ R (Itl K a) H1) : iList K tx σ H R := q
theorem r_zip (q : ta σ H fun vs H1 => ∃ a b xs ys, vs = [.ref a, .ref b] ∧ SqL K H1 a xs ∧ SqL K H1 b ys ∧ R (Itz K a b) H1) : iZip K ta σ H R := q
theorem u_range {k : Nat} (Pv : Nat → L2.St → Hp → Prop) (h0 : Pv 0 σ H) (hs : ∀ i σ H, i < k → Pv i σ H → g (.int (i : Nat)) σ H fun σ2 H2 => tb { nx := Pv (i + 1), rt := r, bk := n, ct := Pv (i + 1) } σ2 H2) (hd : ∀ σ H, Pv k σ H → n σ H) : ForK g tb n r σ (Itr 0 k) H :=
  for_range (D := { nx := n, rt := r }) Pv h0 (fun i σ H hi p => by rw [Int.zero_add]; exact hs i σ H hi p) hd
def LcK (g : TG) (tt : TT) (te : TE) (is : List Nat) (σ : L2.St) (Q : VK) (J : It) (H1 : Hp) : Prop := ∀ D, H1 D = none → ∃ W : Nat → Nat → Hp → Prop, (∃ m, W 0 m (upd H1 D (.lst []))) ∧ ∀ i m H, W i m H →
  (J.stop i H ∧ Q (.ref D) H) ∨ (J.go i H ∧ ∃ Nx : Hp → Prop, (∀ H', Nx H' → ∃ m', m' < m ∧ W (i + 1) m' H') ∧ ∀ x H', J.yld i H x H' → g x (wipe σ is) H' fun σ2 H2 => wipe σ2 is = wipe σ is ∧ tt σ2 H2 fun b H3 =>
    if b = true then te σ2 H3 fun y H4 => ∃ acc, H4 D = some (.lst acc) ∧ acc.length < sizeLine ∧ Nx (upd H4 D (.lst (acc ++ [y]))) else Nx H3)
theorem r_lc (q : wi σ H fun J H1 => LcK g tt te is σ Q J H1) : tLc wi g tt te is σ H Q := q
/-- what the new list grows by -/
def Grow (D : Addr) (Nx : Hp → Prop) : VK := fun y H4 => ∃ acc, H4 D = some (.lst acc) ∧ acc.length < sizeLine ∧ Nx (upd H4 D (.lst (acc ++ [y])))
theorem u_lcR {k : Nat} (q : ∀ D H0, H1 D = none → Same H1 H0 → H0 D = some (.lst []) → (∀ b, b ≠ D → H0 b = H1 b) → ∃ Pv : Nat → Hp → Prop, Pv 0 H0 ∧ (∀ i H, i < k → Pv i H → g (.int (i : Nat)) (wipe σ is) H fun σ2 H2 => wipe σ2 is = wipe σ is ∧ te σ2 H2 (Grow D (Pv (i + 1)))) ∧ ∀ H, Pv k H → Q (.ref D) H) : LcK g tYes te is σ Q (Itr 0 k) H1 := by
  intro D hD
  obtain ⟨Pv, h0, hs, hd⟩ := q D _ hD (fun b o e => by rw [upd_ne (ne_of_none e hD)]; exact e) upd_same fun b hb => upd_ne hb
  refine lc_range (lo := 0) Pv h0 (fun i H hi p => ?_) hd
  rw [Int.zero_add]
  exact hs i H hi p
theorem u_lcL {a : Addr} {xs : List V} (q : ∀ D H0, H1 D = none → Same H1 H0 → H0 D = some (.lst []) → (∀ b, b ≠ D → H0 b = H1 b) → ∃ Pv : Nat → Hp → Prop, Pv 0 H0 ∧ (∀ i H, i ≤ xs.length → Pv i H → SqL K H a xs) ∧ (∀ i x H, xs[i]? = some x → Pv i H → g x (wipe σ is) H fun σ2 H2 => wipe σ2 is = wipe σ is ∧ te σ2 H2 (Grow D (Pv (i + 1)))) ∧ ∀ H, Pv xs.length H → Q (.ref D) H) : LcK g tYes te is σ Q (Itl K a) H1 := by
  intro D hD
  obtain ⟨Pv, h0, hl, hs, hd⟩ := q D _ hD (fun b o e => by rw [upd_ne (ne_of_none e hD)]; exact e) upd_same fun b hb => upd_ne hb
  exact lc_list Pv h0 hl (fun i x H hx p => hs i x H hx p) hd
theorem u_lcZ {a b : Addr} {xs ys : List V} (q : ∀ D H0, H1 D = none → Same H1 H0 → H0 D = some (.lst []) → (∀ b, b ≠ D → H0 b = H1 b) → ∃ Pv : Nat → Hp → Prop, Pv 0 H0 ∧ (∀ i H, i ≤ xs.length → Pv i H → SqL K H a xs ∧ SqL K H b ys) ∧ xs.length = ys.length ∧
    (∀ i x y T H H', xs[i]? = some x → ys[i]? = some y → Pv i H → H T = none → Same H H' → H' T = some (.tup [x, y]) → (∀ b, b ≠ T → H' b = H b) → g (.ref T) (wipe σ is) H' fun σ2 H2 => wipe σ2 is = wipe σ is ∧ te σ2 H2 (Grow D (Pv (i + 1)))) ∧ ∀ H, Pv xs.length H → Q (.ref D) H) : LcK g tYes te is σ Q (Itz K a b) H1 := by
  intro D hD
  obtain ⟨Pv, h0, hl, hlen, hs, hd⟩ := q D _ hD (fun b o e => by rw [upd_ne (ne_of_none e hD)]; exact e) upd_same fun b hb => upd_ne hb
  refine ⟨fun i m H => m = xs.length - i ∧ i ≤ xs.length ∧ Pv i H, ⟨xs.length, by simp, Nat.zero_le _, h0⟩, ?_⟩
  rintro i m H ⟨rfl, hi, p⟩
  obtain ⟨s1, s2⟩ := hl i H hi p
  by_cases hlt : i < xs.length
  · have hlt2 : i < ys.length := hlen ▸ hlt
    refine .inr ⟨⟨xs, ys, xs[i], ys[i], s1, s2, by simp [hlt], by simp [hlt2]⟩, Pv (i + 1), fun H' p' => ⟨xs.length - (i + 1), by omega, rfl, hlt, p'⟩, fun v H' y => ?_⟩
    obtain ⟨T, x, y, rfl, hT, rfl, e1, e2⟩ := y
    exact hs i x y T H _ (e1 xs s1) (e2 ys s2) p hT (fun b o e => by rw [upd_ne (ne_of_none e hT)]; exact e) upd_same fun b hb => upd_ne hb
  · have e : i = xs.length := by omega
    subst e
    exact .inl ⟨⟨xs, ys, s1, s2, .inl (Nat.le_refl _)⟩, hd H p⟩
theorem r_grow {acc : List V} {y : V} {Nx : Hp → Prop} (h : H D = some (.lst acc)) (hz : acc.length < 100000) (q : Nx (upd H D (.lst (acc ++ [y])))) : Grow D Nx y H := ⟨acc, h, Nat.lt_of_lt_of_le hz (by decide), q⟩
theorem r_while {tc : TT} (q : ∃ W : Nat → L2.St → Hp → Prop, (∃ m, W m σ H) ∧ ∀ m σ H, W m σ H → tc σ H fun bb H1 => if bb = true then ∃ N : L2.St → Hp → Prop, (∀ σ' H', N σ' H' → ∃ m', m' < m ∧ W m' σ' H') ∧ tb { nx := N, rt := r, bk := n, ct := N } σ H1 else n σ H1) : tWhile tc tb { nx := n, rt := r, bk := b, ct := c } σ H := q
end

section
variable {X : Cx} {K' : PySem.W.Frag} {pos : Pos}
/-! in a block of a comprehension what the library knows must be named -/
theorem pg_tupK {es : List Expr} {k : Nat} {t : TGs} {n : Nat} (hc : X.calm = true) (h : PGs X es t) (hn : (assignEach es X.env).length = n := by rfl) (hst : (assignEach es X.env).findIdx? (·.1) = none := by rfl) (hK : X.K = K' := by rfl) : PG X (.Tuple es k pos) (gTup K' n t) := by
  subst hK
  exact pg_tup hc h hn hst
theorem ix_listK (hK : X.K = K' := by rfl) : IxR X (rIxL K') := by
  subst hK
  exact ix_list
theorem ix_tupK (hK : X.K = K' := by rfl) : IxR X (rIxT K') := by
  subst hK
  exact ix_tup
end

/-! ### texts -/
def Ok8 (x : Str) : Prop := ∀ c ∈ x.cps.toList, c < 16 ^ 8
theorem ok8_of (s : String) : Ok8 (Str.ofString s) := by
  intro c hc
  rw [signs_ofString] at hc
  obtain ⟨d, _, rfl⟩ := List.mem_map.mp hc
  exact d.val.toNat_lt
theorem Ok8.app {x y : Str} (hx : Ok8 x) (hy : Ok8 y) : Ok8 (x ++ y) := by
  intro c hc
  have e : (x ++ y).cps.toList = x.cps.toList ++ y.cps.toList := Array.toList_append
  rw [e] at hc
  rcases List.mem_append.mp hc with h | h
  · exact hx c h
  · exact hy c h
theorem ok8_nil : Ok8 Str.empty := fun c hc => by cases hc
theorem Ok8.len {x : Str} (h : Ok8 x) : (reprText x).length ≤ 10 * x.length + 2 := StrLaws.reprText_len x h
theorem nil_app (x : Str) : Str.empty ++ x = x := by
  have e : (Str.empty ++ x).cps = Str.empty.cps ++ x.cps := rfl
  cases x with
  | mk c =>
    show Str.mk (#[] ++ c) = _
    rw [Array.empty_append]
end LL
/-! LX1: several except clauses with names; defs that let exceptions out, with guards; isinstance of a caught error; defs whose code objects have tables. -/
namespace LL
open PySem PySem.Spec PyProof.Rows L2

/-! ### except x as n, several clauses -/
/-- a clause: the class, the slot of its name, its suite's reading -/
structure Cl where
  c : Value
  i : Nat
  ts : Addr → Value → Option Addr → TS
/-- behind a suite the name's slot is empty -/
def endsOff (i : Nat) (D : Ends) : Ends := ⟨fun τ G => D.nx (τ.set i none) G, D.rt, fun τ G => D.bk (τ.set i none) G, fun τ G => D.ct (τ.set i none) G⟩
def wCls (K : PySem.W.Frag) (Wo : WX) (D : Ends) : List Cl → WX
  | [] => Wo
  | q :: r => fun cls d σ H => ∃ yes, PySem.W.exmOne K cls q.c = some yes ∧ (yes = true → ∀ a, H a = none → q.ts a cls d (endsOff q.i D) (σ.set q.i (some (.ref a))) H) ∧ (yes = false → wCls K Wo D r cls d σ H)
inductive HdAs (X : Cx) : List ExceptHandler → List Cl → Prop
  | nil : HdAs X [] []
  | cons {x n : Str} {q : Cl} {b0 : Stmt} {su : List Stmt} {p1 p2 : Pos} {hds : List ExceptHandler} {l : List Cl} (hi : X.N[q.i]? = some n) (hl : X.env.kindOf n = some .local) (hc : Names X x q.c)
      (hs : ∀ (a : Addr) (oe : Obj) (cls : Value) (d : Option Addr) (pn : List (Addr × Obj)), Zc cls d oe → (∃ vs, oe.data = .fields vs) → PSs (X.suite a ((a, oe) :: pn)) (b0 :: su) (q.ts a cls d)) (r : HdAs X hds l) :
      HdAs X (.ExceptHandler (some (.Name x p1)) (some n) (b0 :: su) p2 :: hds) (q :: l)
section
variable {X : Cx} {body : List Stmt} {h0 : ExceptHandler} {hds : List ExceptHandler} {l : List Cl} {pos : Pos} {tb : WX → TS} {Wo : WX}
theorem ps_tryAs (stk : X.stack = X.env :: X.outer) (frm : X.env.frame = some X.env.locals) (nd : X.N.Nodup) (tk : Takes X Wo)
    (hb : ∀ (W : WX) (pn : List (Addr × Obj)) (xe : Value → Shared → Prop), Takes (X.tr pn xe) W → PassesOwn (model X.prog X.w) X.A X.env xe → PSs (X.tr pn xe) body (tb W))
    (hh : HdAs X (h0 :: hds) l) : PS X (.Try body (h0 :: hds) [] [] pos) (fun D σ H => tb (wCls X.K Wo D l) D σ H) := by
  constructor
  intro pins s σ H D I want
  have good := I.ok
  have fr : X.A.frames = some (X.env :: X.outer) := by rw [good.frames, stk]
  apply wpAny_Try_except
  let catch_ : Value → Shared → Prop := fun ev t1 => wpAny (model X.prog X.w) X.A (noteFrame ev X.env) (fun _ t2 => wpAny (model X.prog X.w) X.A (setFlight ev none) (fun _ t3 => wpAny (model X.prog X.w) X.A (handleBy ev X.env (h0 :: hds)) (SP X pins D) X.xe t3) X.xe t2) X.xe t1
  refine wpAny_mono ((hb (wCls X.K Wo D l) (X.pn ++ pins) catch_ (fun u t air => ?_) PassesOwn.looking).run [] s σ H D (I.toTry _) want) (fun f t1 went => ?_) (fun ev t1 z => z)
  · obtain ⟨a, B, sI, pins', σ', H', cls, d, rfl, J0, ground, upto, sky, fresh, os, bare, wish⟩ := air
    have J : Inv X pins σ' H' sI := J0.ofTry good
    have sky2 : Sky B (X.env :: X.outer) a (Zc cls d) X.env.locals t.heap := by rw [← stk]; exact sky
    show wpAny (model X.prog X.w) X.A (noteFrame (.ref a) X.env) _ _ _
    refine Sky.land Zc.steady fr frm sky2 fun h3 fly up3 => ?_
    have J3 : Inv X pins σ' H' { t with heap := h3 } := J.landed ground fly.1 (upto.trans up3) os bare
    obtain ⟨oe, vs, e3, z3, d3⟩ := fly.there
    have off : a ∉ frs (X.env :: X.outer) := fun hm => by
      obtain ⟨_, o', e', nf⟩ := fly.2.2.1.mem hm
      rw [e3] at e'
      cases e'
      exact nf _ d3
    have nL : a ≠ X.env.locals := fun z => off (List.mem_filterMap.mpr ⟨X.env, List.mem_cons_self, by rw [frm, z]⟩)
    have nF : a ∉ X.fs := fun hm => by
      obtain ⟨e, he, q⟩ := List.mem_filterMap.mp hm
      exact off (List.mem_filterMap.mpr ⟨e, List.mem_cons_of_mem _ he, q⟩)
    have S3 := J3.suite e3 d3 fresh nL nF
    have walk : ∀ {hs' : List ExceptHandler} {l' : List Cl}, HdAs X hs' l' → wCls X.K Wo D l' cls d σ' H' → wpAny (model X.prog X.w) X.A (handleBy (.ref a) X.env hs') (SP X pins D) X.xe { t with heap := h3 } := by
      intro hs' l' hk
      induction hk with
      | nil =>
        intro wout
        apply wpAny_handleBy_nil
        obtain ⟨_, _, _, oe', vs', T, oT, ts', a1, a2, a3, a4, a5⟩ := id fly
        unfold PySem.passOn
        refine wpAny_bind (wpAny_field a1 a3 a4 ?_)
        rw [if_neg (by simp : ¬ ((Value.ref T == Value.none) = true))]
        have fin : wpAny (model X.prog X.w) X.A (setFlight (.ref a) X.env.frame) (fun _ t4 => wpAny (model X.prog X.w) X.A (throw (.ref a) : Sem Flow) (SP X pins D) X.xe t4) X.xe { t with heap := h3 } := by
          rw [frm]
          refine HandSPX.setFlight_upZ fly fun h4 held up4 => wpAny_throw (tk _ _ ⟨a, B, sI, pins, σ', H', cls, d, rfl, J, ground, (upto.trans up3).trans up4, .inr (.inr ?_), fresh, os, bare, wout⟩)
          rw [stk]
          exact held
        first
          | exact wpAny_bind (wpAny_pure (wpAny_bind fin))
          | exact wpAny_bind fin
      | @cons x n q b0 su p1 p2 hds2 l2 hi hl hc hs r ih =>
        intro ⟨yes, e1, onYes, onNo⟩
        refine wpAny_handleBy_cons (codeAny_handlers_test ?_) (fun z => nomatch z)
        have tyA : PySem.W.Looks (model X.prog X.w) h3 (typeOf (.ref a)) cls := fun A' Q' E' s' k' q' => wpAny_typeOf_ref (k' _ _ e3) (by rw [z3.1]; exact q')
        have isA := PySem.W.exm_one (M := model X.prog X.w) J3.kIn tyA e1
        have named : ∀ {Q' : Value → Shared → Prop} {E' : Value → Shared → Prop}, Q' q.c { t with heap := h3 } → wpAny (model X.prog X.w) (X.A.mark (some (.ref a))) (eval (.Name x p1) X.env) Q' E' { t with heap := h3 } := by
          intro Q' E' hq
          rcases hc with ⟨g1, g2, g3 | ⟨g3, g4, g5⟩⟩
          · exact ld_glob (X := X.suite a ((a, oe) :: (X.pn ++ pins))) S3 g1 g3 hq g2
          · exact ld_blt (X := X.suite a ((a, oe) :: (X.pn ++ pins))) S3 g1 g3 g4 hq g5 g2
        refine named (isA.here ?_)
        cases yes with
        | false => exact ih (onNo rfl)
        | true =>
          apply codeAny_handlers_suite_as
          refine HandSPX.lands_againZ fly fun h4 fly4 up4 => ?_
          have J4 : Inv X pins σ' H' { t with heap := h4 } := J.landed ground fly4.1 ((upto.trans up3).trans up4) os bare
          obtain ⟨oe4, vs4, e4, z4, d4⟩ := fly4.there
          have S4 := J4.suite e4 d4 fresh nL nF
          refine store_ok (X := X.suite a ((a, oe4) :: (X.pn ++ pins))) (v := .ref a) S4 nd hi (.inl hl) rfl (fun t5 S5 => ?_) (.inr hl)
          refine wpAny_mono ((hs a oe4 cls d (X.pn ++ pins) z4 ⟨_, d4⟩).run [] t5 _ H' _ S5 (onYes rfl a fresh)) (fun f t6 went => ?_) (fun _ _ z => False.elim z)
          have off_ : ∀ {τ : L2.St} {G : Hp} {Q' : Shared → Prop}, Inv (X.suite a ((a, oe4) :: (X.pn ++ pins))) [] τ G t6 → (∀ t7, Inv X pins (τ.set q.i none) G t7 → Q' t7) →
              wpAny (model X.prog X.w) X.A (do bindName X.env n .none; unbindBehindTheSuite X.env n p2) (fun _ t7 => Q' t7) X.xe t6 := fun S6 hq => gone_ok (S6.unsuite good) nd hi hl hq
          cases f with
          | ret u => obtain ⟨v6, τ, G, S6, r6, q6⟩ := went; exact off_ S6 fun t7 J7 => ⟨_, _, _, J7, r6, q6⟩
          | next => obtain ⟨τ, G, S6, q6⟩ := went; exact off_ S6 fun t7 J7 => ⟨_, _, J7, q6⟩
          | brk => obtain ⟨τ, G, S6, q6⟩ := went; exact off_ S6 fun t7 J7 => ⟨_, _, J7, q6⟩
          | cont => obtain ⟨τ, G, S6, q6⟩ := went; exact off_ S6 fun t7 J7 => ⟨_, _, J7, q6⟩
    exact walk hh wish
  · cases f with
    | ret u => obtain ⟨v, τ, G, J, r, q⟩ := went; exact ⟨v, τ, G, J.ofTry good, r, q⟩
    | next => obtain ⟨τ, G, J, q⟩ := went; exact wpAny_execs_nil ⟨τ, G, J.ofTry good, q⟩
    | brk => obtain ⟨τ, G, J, q⟩ := went; exact ⟨τ, G, J.ofTry good, q⟩
    | cont => obtain ⟨τ, G, J, q⟩ := went; exact ⟨τ, G, J.ofTry good, q⟩
end
theorem takesNo {X : Cx} : Takes X (fun _ _ _ _ => False) := takes_none5

/-! ### isinstance of a caught error that has a dict -/
section
open PySem.W
variable {prog : Program} {w : World} {A : Around} {s : Shared} {K : Frag} {x D : Addr} {ox od : Obj}
theorem cls_exc {fr : Around} {F : Option Value → Shared → Prop} {G : Value → Shared → Prop} (T : ExcC K D) (kin : K.In s.heap) (at_ : PySem.W.InstAt s.heap x ox D (some od)) (q : F (some (.ref D)) { s with toks := s.toks + 1 }) :
    wpAny (model prog w) fr (getAttr? (.ref x) "__class__") F G s := by
  have there : (clsIn K D).isSome = true := by
    obtain ⟨cd, e, _⟩ := any_some T.hd
    rw [e]; rfl
  have found : findObj K D (some od) "__class__" = some (.bind (.builtin "getset_descriptor.__get__") (.builtin "object.__class__")) := findObj_data there T.ha T.hn T.ht
  obtain ⟨hp, gens, dr, tk, os⟩ := s
  have ty := at_.type (M := model prog w)
  have own := looks_findIn (M := model prog w) kin T.hg
  have none_ := looks_findIn (M := model prog w) kin T.hk
  have look := looks_find (M := model prog w) kin at_ found
  have isB : Looks (model prog w) hp (isInstance (.ref x) (.type "BaseException")) true := ty.andThen (looks_subIn kin T.hs)
  have ne1 : (Value.builtin "BaseException.__getattribute__" == Value.builtin "object.__getattribute__") = false := by decide +kernel
  have ne0 : (onTheHeap (Value.ref D) && (Value.builtin "BaseException.__getattribute__" == Value.builtin "object.__getattribute__")) = false := by rw [ne1, Bool.and_false]
  unfold getAttr? getAttrBy? getAttrBy; refine wpAny_bind (wpAny_mkText (wpAny_bind (wpAny_attempt (wpAny_holding (wpAny_bind (ty.at (wpAny_bind (own.at ?_))))))))
  show wpAny _ _ (if (onTheHeap (Value.ref D) && (Value.builtin "BaseException.__getattribute__" == Value.builtin "object.__getattribute__")) = true then _ else _) _ _ _
  rw [ne0, if_neg Bool.false_ne_true]; unfold getAttrByItsOwn hookBefore
  refine wpAny_bind ?_; rw [if_pos (show onTheHeap (.ref D) = true by rfl)]
  refine none_.at (wpAny_bind (wpAny_attempt (wpAny_holding ?_)))
  unfold callGetattribute; rw [show (false && onTheHeap (Value.builtin "BaseException.__getattribute__")) = false by rfl, if_neg Bool.false_ne_true]
  unfold boundAndCalled; rw [PySem.F.excAttr_ValueError.ga.bind (.ref x)]
  refine wpAny_bind (wpAny_pure ?_)
  show wpAny _ _ (call (.builtin "BaseException.__getattribute__") [.ref x, .str "__class__" tk]) _ _ _
  refine wpAny_call (codeAny_call_builtin PySem.F.excAttr_ValueError.ga.plain PySem.F.entry_bexc_ga (@check_slot (model prog w) _ _ ⟨hp, gens, dr, tk + 1, os⟩ "BaseException.__getattribute__" "BaseException" "__getattribute__" (.ref x) [.str "__class__" tk] [] _ (by decide +kernel) (by decide +kernel) isB (PySem.F.args_bexc_ga (.ref x) (.str "__class__" tk)) ?_))
  unfold Builtin.«object.__getattribute__»; refine wpAny_bind (wpAny_of_eq (a := ((Value.ref x : Value), [Value.str "__class__" tk])) (by first | rfl | (simp only [slotArgs]; rfl)) (wpAny_bind (wpAny_pure (wpAny_bind (ty.at (wpAny_bind (look.at ?_)))))))
  show wpAny _ _ (holding [Value.builtin "object.__class__"] (call (.builtin "getset_descriptor.__get__") [.builtin "object.__class__", .ref x, .ref D]) >>= ret) _ _ _
  refine wpAny_bind (wpAny_holding (wpAny_call (class_get (s := ⟨hp, gens, dr, tk + 1, os⟩) (ox := ox) (od := some od) kin at_ T.hm (wpAny_pure ?_))))
  show wpAny _ _ (handedOut (.ref D)) _ _ _
  rw [handedOut_of (v := .ref D) rfl]
  first
    | exact wpAny_pure (wpAny_pure q)
    | exact wpAny_pure q
    | exact wpAny_pure (wpAny_bind (wpAny_pure (wpAny_pure q)))
theorem kitE (T : ExcC K D) (od : Obj) : KitX K (.ref x) (.ref D) (fun h => InstAt h x ox D (some od)) := by
  obtain ⟨cd, e, _⟩ := any_some T.hd
  obtain ⟨o, hk, hdt⟩ : ∃ o, K.lookup D = some o ∧ o.data = .cls cd := by
    unfold clsIn at e
    split at e
    · rename_i q; cases e; exact ⟨_, q, rfl⟩
    · cases e
  refine ⟨fun _ _ _ I => I.type, fun _ _ X _ A' Q' E' s' k q => ?_, fun h tp dd its n sl X htp => ?_, fun X I k => cls_exc T X I k⟩
  · unfold isType loadHead
    refine wpAny_bind (wpAny_loadPart (k _ _ (X _ _ hk)) ?_)
    rw [hdt]
    exact wpAny_pure q
  · refine Bool.eq_false_iff.mpr fun q => ?_
    obtain rfl := Value.ref.inj (beq_iff_eq.mp q)
    have z := (X _ _ hk).symm.trans htp
    rw [Option.some.inj z] at hdt
    cases hdt
end
/-- isinstance(e, c) of the caught error e, an instance of D with a dict -/
theorem call_isED {X : Cx} {a D dd : Addr} {oe : Obj} {pn : List (Addr × Obj)} (T : ExcC X.K D) (hz : Zc (.ref D) (some dd) oe) (hf : ∃ vs, oe.data = .fields vs) :
    CallR (X.suite a ((a, oe) :: pn)) (.builtin "isinstance") (fun xs H Q => ∃ (c : V) (cv : Value) (b : Bool) (fs : List (Str × V)), xs = [.ref a, c] ∧ H dd = some (.xd fs) ∧ (∀ u, RelV c u → u = cv) ∧ PySem.W.kitOne X.K (.ref D) cv = some b ∧ Q (.bl b) H) := by
  intro pins s σ H xs us Q I r h
  obtain ⟨c, cv, b, fs, rfl, ed, hcv, e, q⟩ := h
  obtain ⟨u1, u2, rfl, r1, r2⟩ : ∃ u1 u2, us = [u1, u2] ∧ RelV (.ref a) u1 ∧ RelV c u2 := by
    cases r with
    | cons r1 r => cases r with
      | cons r2 r => cases r; exact ⟨_, _, rfl, r1, r2⟩
  obtain rfl : u1 = Value.ref a := r1
  obtain rfl := hcv _ r2
  have at_ := (I.pin (a, oe) (List.mem_append.mpr (.inl List.mem_cons_self))).1
  obtain ⟨vs, hv⟩ := hf
  have hx : ObjOk X.prog X.w H s.heap dd (.xd fs) := I.hok dd _ ed
  obtain ⟨mA, hns, _⟩ := hx
  obtain ⟨od, ho, _⟩ := lookIn_ns hns
  have J : PySem.W.InstAt s.heap a oe D (some od) := ⟨at_, hz.1, by unfold PySem.W.notCls; rw [hv] <;> rfl, by rw [hz.2]; exact ho⟩
  exact PySem.W.kia_one (kitE T od) I.kIn J e (fun z => nomatch z) fun tk => ⟨.bl b, H, I.kept (t' := tk) fun _ _ z => z, rfl, q⟩
end LL
/-! LX2: raising, what is raised; repr of any data; the head and the end where code objects have tables. -/
namespace LL
open PySem PySem.Spec PyProof.Rows L2

/-! ### own exceptions over ValueError: facts by a Bool -/
def oexO (C : Addr) : Obj → Bool
  | ⟨.type t, _, .cls cd, sl⟩ => (match sl.toList with
    | [_, _, _, _, some (.builtin n), _] => decide (t = "type") && (decide (n = "ValueError.__new__") && (!cd.hasDel && (cd.hasDict && (match cd.mro with
      | .ref c :: bm => decide (c = C) && PySem.HandSPX.refsVE bm
      | _ => false))))
    | _ => false)
  | _ => false
theorem oexO_ok {C : Addr} {o : Obj} (h : oexO C o = true) : ∃ nm q N bs bm sn sub ab col dd k0 k1 k2 k3 k5, o = excClassObj nm q C N bs bm true sn sub ab col dd k0 k1 k2 k3 k5 "ValueError.__new__" ∧ PySem.HandSPX.refsVE bm = true := by
  unfold oexO at h
  split at h
  · rename_i t od cd sl
    split at h
    · rename_i k0 k1 k2 k3 n k5 e2
      have h1 := He.ba h
      have h2 := He.ba h1.2
      have h3 := He.ba h2.2
      have h4 := He.ba h3.2
      clear h
      have a1 := h1.1
      have a2 := h2.1
      have a3 := h3.1
      have a4 := h4.1
      have h := h4.2
      clear h1 h2 h3 h4
      have a1 := of_decide_eq_true a1
      have a2 := of_decide_eq_true a2
      obtain ⟨nm, bs, mro, ns, qn, hd, sn, sub, ab, col, del⟩ := cd
      have a3 : del = false := by cases del <;> first | rfl | cases a3
      have a4 : hd = true := a4
      subst a1 a2 a3 a4
      dsimp only at h
      split at h
      · rename_i c bm
        obtain ⟨a5, a6⟩ := He.ba h
        have a5 := of_decide_eq_true a5
        subst a5
        have es : sl = #[k0, k1, k2, k3, some (.builtin "ValueError.__new__"), k5] := by
          obtain ⟨l⟩ := sl
          have e2 : l = _ := e2
          rw [e2]
        exact ⟨nm, qn, ns, bs, bm, sn, sub, ab, col, od, k0, k1, k2, k3, k5, by rw [es], a6⟩
      · cases h
    · cases h
  · cases h
def oexB (K : PySem.W.Frag) (C : Addr) : Bool := (match K.lookup C with
  | some o => oexO C o
  | none => false) && (He.eqO (PySem.W.findIn K (.ref C) "__setattr__") (some (some (.builtin "object.__setattr__"))) && (decide (PySem.W.subIn K (.ref C) (.type "BaseException") = some true) &&
    (decide (PySem.W.typeIn K (.ref C) = some (.type "type")) && PySem.W.keepIn K (.ref C))))
theorem oexB_ok {K : PySem.W.Frag} {C : Addr} (h : oexB K C = true) : OexC K C := by
  obtain ⟨h0, h⟩ := He.ba h
  obtain ⟨h1, h⟩ := He.ba h
  obtain ⟨h2, h⟩ := He.ba h
  obtain ⟨h3, h4⟩ := He.ba h
  refine ⟨?_, He.eqO_ok h1, of_decide_eq_true h2, of_decide_eq_true h3, h4⟩
  split at h0
  · rename_i o e
    obtain ⟨nm, q, N, bs, bm, sn, sub, ab, col, dd, k0, k1, k2, k3, k5, eo, hm⟩ := oexO_ok h0
    exact ⟨nm, q, N, bs, bm, sn, sub, ab, col, dd, k0, k1, k2, k3, k5, by rw [e, eo], hm⟩
  · cases h0
/-- such a class with a def for __init__ -/
structure Oex (K : PySem.W.Frag) (C f : Addr) : Prop where
  o : OexC K C
  i : PySem.W.findIn K (.ref C) "__init__" = some (some (.ref f))
  t : PySem.W.typeIn K (.ref f) = some (.type "function")
  x : XfC K C
  e : ExcC K C
def oexF (K : PySem.W.Frag) (C : Str) (f : Addr) : Bool := oexB K (He.ga K C) && (He.eqO (PySem.W.findIn K (.ref (He.ga K C)) "__init__") (some (some (.ref f))) && (decide (PySem.W.typeIn K (.ref f) = some (.type "function")) && (xfB K (He.ga K C) && isiB K C)))
theorem oexF_ok {K : PySem.W.Frag} {C : Str} {f : Addr} (h : oexF K C f = true) : Oex K (He.ga K C) f := by
  obtain ⟨h1, h⟩ := He.ba h
  obtain ⟨h2, h⟩ := He.ba h
  obtain ⟨h3, h⟩ := He.ba h
  obtain ⟨h4, h5⟩ := He.ba h
  have x := xfB_ok h4
  have i := isiB_ok h5
  exact ⟨oexB_ok h1, He.eqO_ok h2, of_decide_eq_true h3, x, ⟨x.ga, x.gg, x.exC, x.hdC, i.ha, i.hn, i.ht, i.hm⟩⟩

/-! ### what is raised -/
/-- an error of the class at C with f = v is raised, its dict new -/
def ExV (C : Addr) (f : Str) (v : V) (H : Hp) (E : XK) : Prop := ∀ dd H', H dd = none → Same H H' → H' dd = some (.xd [(f, v)]) → E (.ref C) (some dd) H'
theorem ExV.of {C : Addr} {f : Str} {v : V} {H : Hp} {E : XK} (x : ExV C f v H E) {dd : Addr} (hn : H dd = none) : E (.ref C) (some dd) (upd H dd (.xd [(f, v)])) :=
  x dd _ hn (fun b o e => by rw [upd_ne (ne_of_none e hn)]; exact e) upd_same
theorem ExV.same {C : Addr} {f : Str} {v : V} {H H' : Hp} {E : XK} (x : ExV C f v H E) (s : Same H H') : ExV C f v H' E := fun dd H2 hn s2 e => x dd H2 (s.free hn) (s.trans s2) e
/-- __init__(self, v): self.f = v -/
def sp_exi (K : PySem.W.Frag) (f : Str) : Sp := fun vs H Q _ => ∃ a C v, vs = [.ref a, v] ∧ OexC K C ∧ PySem.W.findIn K (.ref C) f = some none ∧ H a = some (exo a C none) ∧ ∀ dx, H dx = none → dx ≠ a → Q .non (upd (upd H dx (exd dx [(f, v)])) a (exo a C (some dx)))
/-- raise C(v): what is asked -/
theorem use_raise {K : PySem.W.Frag} {C : Addr} {f : Str} {v : V} {vs : List V} {H : Hp} {E Q : XK} (o : OexC K C) (no : PySem.W.findIn K (.ref C) f = some none) (e : vs = [v]) (q : ExV C f v H Q) :
    vs.length ≤ 1000 ∧ ∀ a, H a = none → sp_exi K f (.ref a :: (vs ++ [])) (upd H a (exo a C none)) (fun u H2 => u = .non ∧ ∃ (d : Addr) (fs : List (Str × V)), H2 a = some (exo a C (some d)) ∧ H2 d = some (exd d fs) ∧ H d = none ∧ Q (.ref C) (some d) (upd (del H2 a) d (.xd fs))) E := by
  subst e
  refine ⟨by show 1 ≤ 1000; decide, fun a ha => ⟨a, C, v, rfl, o, no, upd_same, fun dx hdx ne => ⟨rfl, dx, [(f, v)], upd_same, ?_, ?_, ?_⟩⟩⟩
  · rw [upd_ne ne, upd_same]
  · rw [upd_ne ne] at hdx; exact hdx
  · have hd : H dx = none := by rw [upd_ne ne] at hdx; exact hdx
    have eq : upd (del (upd (upd (upd H a (exo a C none)) dx (exd dx [(f, v)])) a (exo a C (some dx))) a) dx (.xd [(f, v)]) = upd H dx (.xd [(f, v)]) := by
      funext b
      by_cases h1 : b = dx
      · subst h1; rw [upd_same, upd_same]
      · rw [upd_ne h1, upd_ne h1]
        by_cases h2 : b = a
        · subst h2; rw [del_same, ha]
        · rw [del_ne h2, upd_ne h2, upd_ne h1, upd_ne h2]
    rw [eq]
    exact q.of hd
theorem r_mko {C : Addr} {sp : Sp} {dvs : List V} {ta : TA} {σ : L2.St} {H : Hp} {Q : XK} (q : ta σ H fun vs H1 => vs.length ≤ 1000 ∧ ∀ a, H1 a = none → sp (.ref a :: (vs ++ dvs)) (upd H1 a (exo a C none))
    (fun v H2 => v = .non ∧ ∃ (d : Addr) (fs : List (Str × V)), H2 a = some (exo a C (some d)) ∧ H2 d = some (exd d fs) ∧ H1 d = none ∧ Q (.ref C) (some d) (upd (del H2 a) d (.xd fs))) (fun _ _ _ => False)) : tMkO C sp dvs ta σ H Q := q

/-! ### defs that may raise -/
/-- the code object of the def at f -/
def codeOf (K : PySem.W.Frag) (f : Addr) : Option Addr := match K.lookup f with
  | some o => (match o.data with
    | .func fd => (match fd.code with
      | .ref c => some c
      | _ => none)
    | _ => none)
  | none => none
section
variable {P : Program} {w : World} {K : PySem.W.Frag} {mg : Str → Option Value} {base : Heap} {CX : CXT} {g : Bool} {k : Nat} {f : Addr} {fd : FuncData} {ps N : List Str} {sp : Sp} {x qual : Str} {args : Arguments} {body : List Stmt} {sc : Scope} {dvs : List V} {kws : List (Str × V)}
theorem funX (F : FunD K x qual args body sc dvs kws f fd) (S : FnScope N ps sc) (len : ∀ vs H Q E, sp vs H Q E → vs.length = ps.length)
    (hb : ∀ (cdv : Value) (A : Around) (outer : List Env) (s : Shared) (H : Hp) (vs : List V) (Q : VK) (E : XK), (∀ c, codeOf K f = some c → cdv = .ref c) → Room k (A.deeper (envOfC qual sc s.heap.objs.size f cdv)) → Clr g (A.deeper (envOfC qual sc s.heap.objs.size f cdv)) → sp vs H Q E →
      ∃ t, PSs (cxOf CX P w K mg base N qual sc f cdv A outer s H E) body t ∧ t { nx := fun _ H' => Q .non H', rt := Q } (start N vs) H) : FnG P w K mg base CX g (k + 1) f fd ps sp := by
  obtain ⟨oc, od, dV, kV, doc, pm, an, cdv, ct, osl, e, lk, hcd, _⟩ := F.ex
  subst e
  refine fnG_of lk hcd S len fun A outer s H vs Q E hr hg q => hb cdv A outer s H vs Q E (fun c hc => ?_) hr hg q
  unfold codeOf at hc
  rw [lk] at hc
  cases cdv <;> first | (cases hc; rfl) | cases hc
end
/-- what a call may let out is what the def may let out -/
theorem passX {X : Cx} {W : WX} {E : XK} (tk : Takes X W) (h : ∀ cls d σ H, E cls d H → W cls d σ H) : Passes (L2.CX X.prog X.w) X E := passes_call tk h
/-- a call of a def that may raise, but does not here -/
theorem passN {X : Cx} : Passes (L2.CX X.prog X.w) X (fun _ _ _ => False) := passes_call takesNo fun _ _ _ _ h => h.elim

/-! ### repr of any data -/
/-- the text of a value's repr -/
def rReprV (K : PySem.W.Frag) : List V → Hp → VK → Prop := fun xs H Q => ∃ v d, xs = [v] ∧ Dp K H v d ∧ d.showable = true ∧ d.hasDict = false ∧ d.depth ≤ 16 ∧ d.shown.length + 64 ≤ sizeLine ∧ Q (.str d.shown) H
end LL
/-! LX3: repr of any data, empty dicts too; the head and the law's call where code objects have tables. -/
namespace LL
open PySem PySem.Spec PyProof.Rows L2

theorem clr_mark {g : Bool} {A : Around} {v : Option Value} (c : Clr g A) : Clr g (A.mark v) := fun e => by
  have h := c e
  first | exact h | (simpa [Around.mark] using h)

/-! ### repr -/
/-- z is the text of v's repr, found without a change -/
def RpV (K : PySem.W.Frag) (H : Hp) (v : V) (z : Str) : Prop := (∃ d, Dp K H v d ∧ d.showable = true ∧ d.hasDict = false ∧ d.depth ≤ 16 ∧ z = d.shown ∧ z.length ≤ sizeLine) ∨ (∃ a, v = .ref a ∧ H a = some (.dK []) ∧ z = PyData.shown (.dict []))
def rRpV (K : PySem.W.Frag) : List V → Hp → VK → Prop := fun xs H Q => ∃ v z, xs = [v] ∧ RpV K H v z ∧ Q (.str z) H
theorem shown_dict0 : (PyData.shown (.dict [])).length ≤ sizeLine := by decide +kernel
section
variable {X : Cx}
theorem cr_reprV (hg : Clr true X.A) (hu : X.A.units + 64 < cLine) : CallR X (.builtin "repr") (rRpV X.K) := by
  intro pins s σ H xs us Q I r h
  obtain ⟨v, z, rfl, hv, q⟩ := h
  obtain ⟨u, rfl, ru⟩ := vals1 r
  rcases hv with ⟨d, hd, h1, h2, h3, rfl, h4⟩ | ⟨a, rfl, ha, rfl⟩
  · cases hd with
    | non => cases ru; exact PySem.P.repr_of_none ⟨.str _, H, I.tok _, ⟨s.toks, rfl⟩, q⟩
    | bl b =>
      cases ru
      refine PySem.P.repr_of_bool ⟨.str (PyData.shown (.bool b)), H, I.tok _, ⟨s.toks, ?_⟩, q⟩
      cases b <;> rfl
    | int i =>
      obtain ⟨t, rfl⟩ := ru
      exact PySem.P.repr_of_int (of_decide_eq_true h1) ⟨.str _, H, I.tok _, ⟨s.toks, rfl⟩, q⟩
    | str x =>
      obtain ⟨t, rfl⟩ := ru
      exact PySem.P.repr_of_str ⟨.str _, H, I.tok _, ⟨s.toks, rfl⟩, q⟩ h4
    | lst hs hd =>
      cases ru
      obtain ⟨as, rd⟩ := Dp.reads I _ _ _ (Dp.lst hs hd) (show RelV (.ref _) (Value.ref _) from rfl)
      exact repr_of_reads' rd h1 (PyData.noDict_hsm h2) (hg rfl) (by omega) (fun _ _ z => z) (fun h' v tk hk => ⟨.str _, H, I.kept hk, ⟨_, rfl⟩, q⟩) h4
    | tup hs hd =>
      cases ru
      obtain ⟨as, rd⟩ := Dp.reads I _ _ _ (Dp.tup hs hd) (show RelV (.ref _) (Value.ref _) from rfl)
      exact repr_of_reads' rd h1 (PyData.noDict_hsm h2) (hg rfl) (by omega) (fun _ _ z => z) (fun h' v tk hk => ⟨.str _, H, I.kept hk, ⟨_, rfl⟩, q⟩) h4
  · cases ru
    obtain ⟨_, ns, vs, rel, o, es, ep, ho, ex, hd, _, pr, _⟩ := dk_of I.hok ha
    cases rel
    have e0 : es.toList = [] := by cases hp : es.toList with
      | nil => rfl
      | cons x l => rw [hp] at pr; cases pr
    have rd : Reads s.heap (.ref a) (.dict []) (a :: [] ++ []) := .dict ho ex.1 hd (by rw [e0]; exact .nil) (by rw [e0]; exact .nil)
    exact repr_of_reads' rd (by decide +kernel) (fun _ hm => by simp at hm; rw [← hm] at ns; simp at ns) (hg rfl) (by show X.A.units + (1 + 1) < cLine; omega) (fun _ _ z => z) (fun h' v tk hk => ⟨.str _, H, I.kept hk, ⟨_, rfl⟩, q⟩) shown_dict0
end

theorem cr_reprVK {X : Cx} {K' : PySem.W.Frag} (hg : Clr true X.A) (hu : X.A.units + 64 < cLine) (hK : X.K = K' := by rfl) : CallR X (.builtin "repr") (rRpV K') := by
  subst hK
  exact cr_reprV hg hu
/-! ### tables -/
/-- the def at f: its code object, its table -/
def tabOf (K : PySem.W.Frag) (f : Addr) : Option (Addr × Addr) := match codeOf K f with
  | some c => (match K.lookup c with
    | some o => (match o.data with
      | .fields vs => (match (vs.toList[11]? : Option Value) with
        | some (Value.ref P) => some (c, P)
        | _ => none)
      | _ => none)
    | none => none)
  | none => none
def tabsIn (K : PySem.W.Frag) (fs : List Str) : List (Addr × Addr) := fs.filterMap fun x => tabOf K (He.ga K x)
/-- the fragment without what stands at these addresses -/
def cutF (K : PySem.W.Frag) (l : List Addr) : PySem.W.Frag := K.filter fun p => !l.contains p.1
theorem cutF_lookup {K : PySem.W.Frag} {l : List Addr} {a : Addr} : (cutF K l).lookup a = if l.contains a then none else K.lookup a := by
  induction K with
  | nil => cases h : l.contains a <;> simp [cutF, h]
  | cons p r ih =>
    obtain ⟨b, o⟩ := p
    unfold cutF at ih ⊢
    by_cases hb : l.contains b = true
    · rw [List.filter_cons_of_neg (by simp only [hb]; decide), ih]
      by_cases ha : l.contains a = true
      · rw [if_pos ha, if_pos ha]
      · rw [if_neg ha, if_neg ha]
        have : (a == b) = false := by
          refine beq_eq_false_iff_ne.mpr fun z => ?_
          rw [z] at ha
          exact ha hb
        simp [List.lookup, this]
    · rw [List.filter_cons_of_pos (by simp only [Bool.not_eq_true] at hb; simp only [hb]; decide)]
      by_cases e : a = b
      · subst e
        rw [if_neg hb]
        simp [List.lookup]
      · have : (a == b) = false := beq_eq_false_iff_ne.mpr e
        simp only [List.lookup, this]
        exact ih
theorem cutF_in {K : PySem.W.Frag} {l : List Addr} {h : Heap} (X : K.In h) : (cutF K l).In h := fun a o e => X a o (by
  rw [cutF_lookup] at e
  split at e
  · cases e
  · exact e)
theorem cutF_not {K : PySem.W.Frag} {l : List Addr} {a : Addr} (h : a ∈ l) : (cutF K l).lookup a = none := by
  rw [cutF_lookup, if_pos (List.contains_iff_mem.mpr h)]
/-- a table that is empty -/
def isTab0 : Option Obj → Bool
  | some ⟨.none, none, .fields vs, sl⟩ => decide (vs.size = 0) && decide (sl.size = 0)
  | _ => false
theorem isTab0_ok {o : Option Obj} (h : isTab0 o = true) : o = some { cls := .none, data := .fields #[] } := by
  unfold isTab0 at h
  split at h
  · rename_i vs sl
    obtain ⟨h1, h2⟩ := He.ba h
    have h1 := of_decide_eq_true h1
    have h2 := of_decide_eq_true h2
    have e1 : vs = #[] := Array.eq_empty_of_size_eq_zero h1
    have e2 : sl = #[] := Array.eq_empty_of_size_eq_zero h2
    rw [e1, e2]
  · cases h
/-- the fragment that the head tells of: what the names reach, less the tables of the defs fs -/
def frT (n : Nat) (fs : List Str) (g : Addr → Option Obj) : PySem.W.Frag := cutF (He.frG g (He5.asA g n)) ((tabsIn (He.frG g (He5.asA g n)) fs).map (·.2))
def tabB (K : PySem.W.Frag) (g : Addr → Option Obj) (fs : List Str) : Bool := fs.all fun x => match tabOf K (He.ga K x) with
  | some (c, P) => PySem.W.codeHdIn K c P && (isTab0 (g P) && (K.lookup P).isNone)
  | none => false
def obsT (n : Nat) (fa : List He.Fa) (fn : List He5.DefA) (ex : PySem.W.Frag → Bool) (fs : List Str) (g : Addr → Option Obj) : He.AlD × Bool :=
  let K := frT n fs g
  (He5.obsA fa fn K, ex K && tabB K g fs)
/-- what the head says of the fragment and the tables -/
structure TabsOk (K : PySem.W.Frag) (h : Heap) (fs : List Str) : Prop where
  ex : ∀ x ∈ fs, ∃ c P, tabOf K (He.ga K x) = some (c, P) ∧ PySem.W.CodeHd h c P ∧ h.get? P = some { cls := .none, data := .fields #[] } ∧ K.lookup P = none
theorem tabB_ok {K : PySem.W.Frag} {h : Heap} {fs : List Str} (X : K.In h) (e : tabB K h.get? fs = true) : TabsOk K h fs := by
  refine ⟨fun x hx => ?_⟩
  have z := List.all_eq_true.mp e x hx
  split at z
  · rename_i c P q
    obtain ⟨z1, z⟩ := He.ba z
    obtain ⟨z2, z3⟩ := He.ba z
    exact ⟨c, P, q, PySem.W.codeHd_of_K X z1, isTab0_ok z2, Option.isNone_iff_eq_none.mp z3⟩
  · cases z
def hookT (n : Nat) (fa : List He.Fa) (fn : List He5.DefA) (ex : PySem.W.Frag → Bool) (fs : List Str) : PySem.W.Hook where
  α := He.AlD × Bool
  obs := fun s => obsT n fa fn ex fs s.heap.get?
  val := fun _ => (He5.valA fn, true)
  says := fun _ h => ∃ K : PySem.W.Frag, K.In h ∧ He5.SaysA fa fn K ∧ ex K = true ∧ TabsOk K h fs
  of := fun _ s e => by
    have X : (frT n fs s.heap.get?).In s.heap := cutF_in He.frG_in
    have e2 : (ex (frT n fs s.heap.get?) && tabB (frT n fs s.heap.get?) s.heap.get? fs) = true := congrArg Prod.snd e
    obtain ⟨a, b⟩ := He.ba e2
    exact ⟨_, X, congrArg Prod.fst e, a, tabB_ok X b⟩
  keeps := fun _ _ _ ⟨K, hK, c, x, t⟩ k => ⟨K, PySem.W.Frag.In.keeps hK k, c, x, ⟨fun y hy => by
    obtain ⟨c, P, a1, a2, a3, a4⟩ := t.ex y hy
    exact ⟨c, P, a1, a2.keeps k, k _ _ a3, a4⟩⟩⟩
theorem obsT_eq {n : Nat} {fa : List He.Fa} {fn : List He5.DefA} {ex : PySem.W.Frag → Bool} {fs : List Str} {g : Addr → Option Obj} {s : Shared} (h : ∀ a, g a = s.heap.get? a) : obsT n fa fn ex fs g = (hookT n fa fn ex fs).obs s := by
  have e : g = s.heap.get? := funext h
  subst e
  rfl
end LL
/-! LX4: the law's call where code objects have tables. -/
namespace LL
open PySem PySem.Spec PyProof.Rows L2 LamX

/-- nothing is tracked but the script, if the fragment does not tell it, and the tables -/
def firstH (K : PySem.W.Frag) (Ts : List Addr) (a : Addr) (us : List Value) (ns : List Int) : Hp := fun b =>
  if b ∈ Ts then some (.tbl #[]) else if b = a then (match K.lookup a with
    | some _ => none
    | none => some (.frz { cls := .type "list", data := .seq us.toArray } (.lst (ns.map V.int)))) else none
section
variable {K : PySem.W.Frag} {Ts : List Addr} {a : Addr} {us : List Value} {ns : List Int}
theorem firstH_tab {b : Addr} (h : b ∈ Ts) : firstH K Ts a us ns b = some (.tbl #[]) := if_pos h
theorem firstH_cases {b : Addr} {u : HO} (h : firstH K Ts a us ns b = some u) : (b ∈ Ts ∧ u = .tbl #[]) ∨ (b ∉ Ts ∧ b = a ∧ K.lookup a = none ∧ u = .frz { cls := .type "list", data := .seq us.toArray } (.lst (ns.map V.int))) := by
  unfold firstH at h
  by_cases h1 : b ∈ Ts
  · rw [if_pos h1] at h; cases h; exact .inl ⟨h1, rfl⟩
  · rw [if_neg h1] at h
    by_cases h2 : b = a
    · rw [if_pos h2] at h
      match hk : K.lookup a, h with
      | some o, h => cases h
      | none, h => cases h; exact .inr ⟨h1, h2, rfl, rfl⟩
    · rw [if_neg h2] at h; cases h
end
theorem law_gT {P : Program} {w : World} {K : PySem.W.Frag} {mg mb : Str → Option Value} {CX : CXT} {g : Bool} {k : Nat} {fa a : Addr} {fd : FuncData} {x : Str} {sp : Sp} {s0 : Shared} {us : List Value} {ns : List Int} {tabs : List (Addr × Addr)}
    (KX : K.In s0.heap) (G : s0.heap.Ns mainGlobals mg) (B : s0.heap.Ns builtinsNs mb) (BB : ∀ x : Str, x ≠ "__name__" → mb x = bootBuiltins x) (L : s0.heap.NoLimit) (gens : s0.gens = #[])
    (tA : ∀ q ∈ tabs, s0.heap.get? q.2 = some { cls := .none, data := .fields #[] }) (tK : ∀ q ∈ tabs, K.lookup q.2 = none) (tC : ∀ q ∈ tabs, PySem.W.CodeHd s0.heap q.1 q.2)
    (main : ∃ (bm : Addr) (ob : Obj), mg "__builtins__" = some (.ref bm) ∧ bm ≠ builtinsNs ∧ s0.heap.get? bm = some ob ∧ ob.cls = .type "module" ∧ ob.dict = some builtinsNs ∧ ob.data = .plain)
    (ha : s0.heap.get? a = some { cls := .type "list", data := .seq us.toArray }) (hi : IntsAre us ns) (hl : ns.length ≤ sizeLine) (room : Room k callerA)
    (F : ∀ base : Heap, K.In base → base.Ns mainGlobals mg → (∀ q ∈ tabs, TabB base mg q.1 q.2) → FnG P w K mg base CX g k fa fd [x] sp) (bind : ∀ (s : Shared) (u : Value), BindsTo s fd ⟨[u], []⟩ [(x, u)])
    (want : ∀ H : Hp, (∀ q ∈ tabs, H q.2 = some (.tbl #[])) → SqL K H a (ns.map V.int) → sp [.ref a] H (fun v _ => v = .bl true) fun _ _ _ => False) (none_ : ∀ H e s', CX [] H s0 (fun _ _ _ => False) e s' → False) :
    codeAny (model P w) callerA (.call (.ref fa) ⟨[.ref a], []⟩) (fun r s' => r = .ok (.ret (.bool true)) ∧ OldK s0.heap s'.heap ∧ s'.os = s0.os ∧ AllBare s'.gens) s0 := by
  have rel := vals_ints hi
  have lenV := hi.length
  let Ts := tabs.map (·.2)
  have inT : ∀ q ∈ tabs, q.2 ∈ Ts := fun q hq => List.mem_map.mpr ⟨q, hq, rfl⟩
  have ofT : ∀ {b : Addr}, b ∈ Ts → ∃ q ∈ tabs, q.2 = b := fun hb => List.mem_map.mp hb
  have atT : ∀ {b : Addr}, b ∈ Ts → s0.heap.get? b = some { cls := .none, data := .fields #[] } := fun hb => by
    obtain ⟨q, hq, e⟩ := ofT hb
    rw [← e]; exact tA q hq
  let H := firstH K Ts a us ns
  have aT : a ∉ Ts := fun z => by
    have q := atT z
    rw [ha] at q
    cases q
  -- what is not tracked
  have freeOf : ∀ {b : Addr} {o : Obj}, s0.heap.get? b = some o → (∀ vs n, o.data ≠ .seq vs n) → o.data ≠ .fields #[] → H b = none := by
    intro b o e h1 h2
    match q : H b with
    | none => rfl
    | some u =>
      rcases firstH_cases q with ⟨z, _⟩ | ⟨_, z, _, _⟩
      · rw [atT z] at e; cases e; exact absurd rfl h2
      · rw [z, ha] at e; cases e; exact absurd rfl (h1 _ _)
  have up : ∀ {b : Addr} {m : Str → Option Value}, s0.heap.Ns b m → (hidT s0.heap H).Ns b m := by
    rintro b m ⟨o, es, ep, e, d, r⟩
    refine ⟨o, es, ep, hidT_get e (freeOf e (fun vs n z => ?_) fun z => ?_), d, r⟩
    · rw [d] at z; cases z
    · rw [d] at z; cases z
  have KB : K.In (hidT s0.heap H) := by
    intro b o e
    refine hidT_get (KX b o e) ?_
    match q : H b with
    | none => rfl
    | some u =>
      rcases firstH_cases q with ⟨z, _⟩ | ⟨_, z, kz, _⟩
      · obtain ⟨p, hp, ep⟩ := ofT z
        rw [← ep, tK p hp] at e; cases e
      · rw [z, kz] at e; cases e
  have TB : ∀ q ∈ tabs, TabB (hidT s0.heap H) mg q.1 q.2 := by
    intro q hq
    have tq := tA q hq
    refine ⟨?_, ?_, fun z => ?_⟩
    · obtain ⟨o, vs, file, tf, flags, tg, inF, text, tt, e1, r1, r2, r3, rest⟩ := tC q hq
      refine ⟨o, vs, file, tf, flags, tg, inF, text, tt, hidT_get e1 (freeOf e1 (fun vs n z => ?_) fun z => ?_), r1, r2, r3, rest⟩
      · rw [r2] at z; cases z
      · rw [r2] at z; cases z; simp at r3
    · obtain ⟨bm, ob, b1, b2, b3, b4, b5, b6⟩ := main
      refine ⟨bm, ob, b1, b2, fun z => ?_, fun z => ?_, hidT_get b3 (freeOf b3 (fun vs n z => ?_) fun z => ?_), b4, b5, b6⟩
      · obtain ⟨o, es, ep, e, hd, _⟩ := G
        rw [z, e] at b3; cases b3; rw [hd] at b6; cases b6
      · rw [z, tq] at b3; cases b3; cases b6
      · rw [b6] at z; cases z
      · rw [b6] at z; cases z
    · obtain ⟨o, es, ep, e, hd, _⟩ := G
      rw [z, tq] at e; cases e; cases hd
  have seq : SqL K H a (ns.map V.int) := by
    match hk : K.lookup a with
    | some o =>
      have e := KX a o hk
      rw [ha] at e
      cases e
      exact .inr ⟨_, us.toArray, _, hk, rfl, rfl, rfl, by rw [List.size_toArray, lenV]; exact hl, by simpa using rel⟩
    | none =>
      refine .inl (.inr ⟨{ cls := .type "list", data := .seq us.toArray }, ?_⟩)
      show (if a ∈ Ts then _ else _) = _
      rw [if_neg aT, if_pos rfl, hk]
  have hok : HOk P w H s0.heap := by
    intro b u q
    rcases firstH_cases q with ⟨z, rfl⟩ | ⟨_, rfl, _, rfl⟩
    · exact atT z
    · exact ⟨ha, by rw [List.length_map]; exact hl, us, _, rel, ha⟩
  obtain ⟨mc, l1, l2⟩ := L
  have M : Mod K mg (hidT s0.heap H) := ⟨KB, up G, ⟨mb, up B, BB⟩, ⟨mc, up l1, l2⟩⟩
  have e0 : Env0 P w K mg (hidT s0.heap H) callerA [] s0 H := ⟨rfl, M, fun _ _ e => of_hidT e, Nat.le_of_eq (hidT_size _ _), trivial, (fun b hb => nomatch hb), hok, .of_eq gens⟩
  refine codeAny_mono ((F _ KB (up G) TB).run callerA [] s0 H ⟨[.ref a], []⟩ [.ref a] [.ref a] _ _ room (fun _ => rfl) e0 (bind s0 (.ref a)) (.cons rfl .nil) (want H (fun q hq => firstH_tab (inT q hq)) seq)) ?_
  intro r s' h
  match r, h with
  | .error e, h => exact (none_ H e s' h).elim
  | .ok .next, h => exact h.elim
  | .ok .brk, h => exact h.elim
  | .ok .cont, h => exact h.elim
  | .ok (.ret u), h =>
    obtain ⟨v, H', os, bare, un, hok', rv, ev⟩ := h
    have ev : v = V.bl true := ev
    subst ev
    obtain rfl : u = Value.bool true := rv
    have keep : ∀ b o, b ∉ Ts → s0.heap.get? b = some o → s'.heap.get? b = some o := by
      intro b o nb e
      match q : H b with
      | none => exact un.keep b o e q (fun z => nomatch z) (by simp)
      | some u =>
        rcases firstH_cases q with ⟨z, _⟩ | ⟨_, _, _, rfl⟩
        · exact absurd z nb
        · have z1 := (hok b _ q).1
          have z2 := (hok' b _ (un.frzs b _ _ q)).1
          rw [e] at z1
          cases z1
          exact z2
    have grown : ∀ {b : Addr}, b ∈ Ts → ∃ more : Array Value, s'.heap.get? b = some { cls := .none, data := .fields more } := fun {b} hb => by
      obtain ⟨more, z⟩ := un.tbls b #[] (firstH_tab hb)
      exact ⟨_, hok' b _ z⟩
    refine ⟨rfl, ⟨fun b o e => ?_, fun b o e => ?_⟩, os, bare⟩
    · by_cases hb : b ∈ Ts
      · obtain ⟨p, hp, ep⟩ := ofT hb
        obtain ⟨more, hm⟩ := grown hb
        have e' := atT hb
        rw [e'] at e
        cases e
        subst ep
        exact .inr (.inl ⟨((tC p hp).tab (tA p hp)).isCodeTable, rfl, #[], more, rfl, by rw [Array.empty_append]; exact hm⟩)
      · exact .inl (keep b o hb e)
    · by_cases hb : b ∈ Ts
      · obtain ⟨more, hm⟩ := grown hb
        exact ⟨_, hm⟩
      · exact ⟨o, keep b o hb e⟩
theorem walk_gT {l : PySem.W.OpenLaw} {n k : Nat} {g : Bool} {q : Program} {loose : List Str} {XP : (Str → Option Value) → Heap → Prop} {YP : World → Heap → Prop} {d : DefRec} {CX : World → CXT} {x : Str}
    (hn : l.most = some n) (hn2 : n ≤ sizeLine) (hdf : d.params.defaults = []) (room : Room k callerA)
    (F : ∀ (w : World) (mg : Str → Option Value) (fa : Addr) (h : Heap), YP w h → XP mg h → h.Ns mainGlobals mg → mg d.name = some (.ref fa) →
      ∃ (K : PySem.W.Frag) (fd : FuncData) (sp : Sp) (tabs : List (Addr × Addr)), K.In h ∧ (∀ q ∈ tabs, h.get? q.2 = some { cls := .none, data := .fields #[] } ∧ K.lookup q.2 = none ∧ PySem.W.CodeHd h q.1 q.2) ∧ (∀ (s : Shared) (u : Value), BindsTo s fd ⟨[u], []⟩ [(x, u)]) ∧
        (∀ (H : Hp) (a : Addr) (ns : List Int), ns.length ≤ n → (∀ q ∈ tabs, H q.2 = some (.tbl #[])) → SqL K H a (ns.map V.int) → sp [.ref a] H (fun v _ => v = .bl true) fun _ _ _ => False) ∧
        ∀ base : Heap, K.In base → base.Ns mainGlobals mg → (∀ q ∈ tabs, TabB base mg q.1 q.2) → FnG l.prog w K mg base (CX w) g k fa fd [x] sp)
    (none_ : ∀ (w : World) (H : Hp) (s : Shared) (e : Value) (s' : Shared), CX w [] H s (fun _ _ _ => False) e s' → False) : PySem.W.WalkO q loose XP YP l.row.toRowW d [] (fun f vs => PySem.call f vs) := by
  refine Att.attach_callB hn hdf ?_
  intro w s0 s1 mg mb fa o pm cd doc a us ns G Y ho hd hcd hmg hobj hints hlen hbits gens
  obtain ⟨K, fd, sp, tabs, KX, hT, hb, hsp, hF⟩ := F w mg fa _ Y G.X G.T.g hmg
  exact law_gT KX G.T.g G.T.b G.T.builtins G.T.nolimit gens (fun q hq => (hT q hq).1) (fun q hq => (hT q hq).2.1) (fun q hq => (hT q hq).2.2) G.T.bmain hobj hints (Nat.le_trans hlen hn2) room hF hb (fun H hH hS => hsp H a ns hlen hH hS) (fun H e s' => none_ w H s1 e s')
end LL
/-! LX5: what stays (Fr); a lambda handed to a def of the text; the def that calls it in a try. -/
namespace LL
open PySem PySem.Spec PyProof.Rows L2 LamX

/-! ### what stays -/
/-- neither a table nor an object of another kind -/
def Pl : HO → Prop
  | .tbl _ => False
  | .ext _ => False
  | _ => True
theorem Pl.tbl {o : HO} (h : Pl o) (ps : Array Value) : o ≠ .tbl ps := fun z => by subst z; exact h
theorem Pl.code {o : HO} (h : Pl o) (c : Addr) (q : Str) : o ≠ CodeO c q := fun z => by subst z; exact h
/-- all but what stands at S stays; the tables are tables -/
structure Fr (T : List (Addr × Str)) (S : List Addr) (H H' : Hp) : Prop where
  kp : ∀ b o, b ∉ S → (∀ ps, o ≠ .tbl ps) → H b = some o → H' b = some o
  tb : Tabs T H → Tabs T H'
section
variable {T : List (Addr × Str)} {S S' : List Addr} {H H1 H2 : Hp} {a p d : Addr} {o : HO}
theorem Fr.refl : Fr T S H H := ⟨fun _ _ _ _ e => e, id⟩
theorem Fr.same (s : Same H H1) : Fr T S H H1 := ⟨fun b o _ _ e => s b o e, fun t => t.ext s⟩
theorem Fr.trans (x : Fr T S H H1) (y : Fr T S H1 H2) : Fr T S H H2 := ⟨fun b o h n e => y.kp b o h n (x.kp b o h n e), fun t => y.tb (x.tb t)⟩
theorem Fr.mono (x : Fr T S H H1) (h : ∀ b ∈ S, b ∈ S') : Fr T S' H H1 := ⟨fun b o hb n e => x.kp b o (fun z => hb (h b z)) n e, x.tb⟩
/-- what was new on the way may have changed -/
theorem Fr.step (x : Fr T S H H1) (n : H1 d = none) (y : Fr T (d :: S) H1 H2) : Fr T S H H2 := ⟨fun b o hb nt e => by
    have e1 := x.kp b o hb nt e
    refine y.kp b o (fun z => ?_) nt e1
    rcases List.mem_cons.mp z with z | z
    · rw [z, n] at e1; cases e1
    · exact hb z, fun t => y.tb (x.tb t)⟩
theorem Fr.at_ (x : Fr T S H H1) (e : H a = some o) (h : Pl o) (ha : a ∉ S) : H1 a = some o := x.kp a o ha h.tbl e
theorem Fr.same_of (x : Fr T [] H H1) (h : ∀ b o, H b = some o → Pl o) : Same H H1 := fun b o e => x.at_ e (h b o e) (fun z => nomatch z)
/-- a store at p -/
theorem Fr.set (e : H p = some o) (h : Pl o) (hp : p ∈ S) (ne : ∀ b, b ≠ p → H1 b = H b) : Fr T S H H1 := ⟨fun b u hb _ eb => by
    rw [ne b (fun z => hb (z ▸ hp))]; exact eb, fun t q hq => by
    obtain ⟨ps, a1, a2, a3⟩ := t q hq
    have off : ∀ b u, H b = some u → u ≠ o → H1 b = some u := fun b u eb nu => by
      rw [ne b (fun z => by rw [z, e] at eb; exact nu (Option.some.inj eb).symm)]; exact eb
    refine ⟨ps, off _ _ a1 (fun z => h.tbl ps z.symm), a2, fun pos cv hcv => ?_⟩
    obtain ⟨c, e1, e2⟩ := a3 pos cv hcv
    exact ⟨c, e1, off _ _ e2 (fun z => h.code c _ z.symm)⟩⟩
/-- an object that is new: stored, then changed -/
theorem Fr.ext (e : ExtN H H1) (t : Tabs T H1) : Fr T S H H1 := ⟨fun b o _ n eb => e b o eb n, fun _ => t⟩
end

/-! ### tables by names -/
def tabL (K : PySem.W.Frag) (fs : List Str) : List (Addr × Str) := fs.filterMap fun x => (tabOf K (He.ga K x)).map fun q => (q.2, (x ++ ".<locals>.") ++ "<lambda>")
theorem tabL_mem {K : PySem.W.Frag} {fs : List Str} {x : Str} {c P : Addr} (h : x ∈ fs) (e : tabOf K (He.ga K x) = some (c, P)) : (P, (x ++ ".<locals>.") ++ "<lambda>") ∈ tabL K fs := List.mem_filterMap.mpr ⟨x, h, by rw [e]; rfl⟩
theorem tabsIn_mem {K : PySem.W.Frag} {fs : List Str} {x : Str} {c P : Addr} (h : x ∈ fs) (e : tabOf K (He.ga K x) = some (c, P)) : (c, P) ∈ tabsIn K fs := List.mem_filterMap.mpr ⟨x, h, e⟩
theorem tabs_start {K : PySem.W.Frag} {fs : List Str} {H : Hp} (h : ∀ q ∈ tabsIn K fs, H q.2 = some (.tbl #[])) : Tabs (tabL K fs) H := fun q hq => by
  obtain ⟨x, hx, e⟩ := List.mem_filterMap.mp hq
  cases t : tabOf K (He.ga K x) with
  | none => rw [t] at e; cases e
  | some r =>
    obtain ⟨c, P⟩ := r
    rw [t] at e
    cases e
    exact TabS.nil (h _ (tabsIn_mem hx t))
theorem tabs_ok {K : PySem.W.Frag} {h : Heap} {fs : List Str} (t : TabsOk K h fs) : ∀ q ∈ tabsIn K fs, h.get? q.2 = some { cls := .none, data := .fields #[] } ∧ K.lookup q.2 = none ∧ PySem.W.CodeHd h q.1 q.2 := fun q hq => by
  obtain ⟨x, hx, e⟩ := List.mem_filterMap.mp hq
  obtain ⟨c, P, a1, a2, a3, a4⟩ := t.ex x hx
  rw [a1] at e
  cases e
  exact ⟨a3, a4, a2⟩
/-- each table has one name -/
def tabU (K : PySem.W.Frag) (fs : List Str) : Bool := (tabL K fs).all fun p => (tabL K fs).all fun q => !decide (p.1 = q.1) || decide (p.2 = q.2)
theorem tabU_ok {K : PySem.W.Frag} {fs : List Str} (h : tabU K fs = true) {p q : Addr × Str} (hp : p ∈ tabL K fs) (hq : q ∈ tabL K fs) (e : p.1 = q.1) : p.2 = q.2 := by
  have z := List.all_eq_true.mp (List.all_eq_true.mp h p hp) q hq
  rw [decide_eq_true e] at z
  exact of_decide_eq_true z
theorem codeOf_tab {K : PySem.W.Frag} {f c P : Addr} (e : tabOf K f = some (c, P)) : codeOf K f = some c := by
  unfold tabOf at e
  split at e
  · rename_i c' hc
    rw [hc]
    repeat' split at e
    all_goals first | (cases e; rfl) | cases e
  · cases e

/-! ### x(lambda: body) -/
theorem pg_lamK {X : Cx} {K' : PySem.W.Frag} {mg' : Str → Option Value} {base' : Heap} {qn : Str} {fs : List Str} {TT : (XK → Hp → VK → Prop) → Hp → VK → Prop} {x a : Str} {g c P : Addr} {k : Nat} {fd : FuncData} {pg : Arguments} {bg : List Stmt} {sg : Scope} {Ng : List Str}
    {params : Arguments} {body : Expr} {scope : Scope} {t : XK → TE} {p lpos pos : Pos} (F : FunD K' x x pg bg sg [] [] g fd) (hb : L2.Binds K' fd [a] []) (hg : Gl X x) (hm : mg' x = some (.ref g)) (Sg : FnScope Ng [a] sg) (hNg : Ng[0]? = some a) (hva : Vis sg a)
    (hG : ∀ cdv, GivesTo X Ng x sg g cdv bg a ((qn ++ ".<locals>.") ++ "<lambda>") TT)
    (e : tabOf K' (He.ga K' qn) = some (c, P)) (hx : qn ∈ fs) (TB : ∀ q ∈ tabsIn K' fs, TabB base' mg' q.1 q.2) (U : tabU K' fs = true) (hcode : ∀ c, codeOf K' (He.ga K' qn) = some c → X.env.code = .ref c) (hr : Room (k + 2) X.A) (L : LamS X.env.scope scope) (hdef : defaultsOf params X.env = ([], []))
    (hbind : ∀ (q : Str) (cl : List (Str × Addr)) (pm cv ctv : Value), bindArgs (PySem.W.kla_fn "<lambda>" q params body scope cl pm cv ctv) ⟨[], []⟩ = pure [])
    (hbody : ∀ (A : Around) (outer : List Env) (s : Shared) (H : Hp) (E : XK) (f c' : Addr), Room k (A.deeper (lamEnv X scope s.heap.objs.size f c')) → PE (lamCx X A outer s H E scope f c') body (t E))
    (hK : X.K = K' := by rfl) (hM : X.mg = mg' := by rfl) (hB : X.base = base' := by rfl) (hq : X.env.qual = qn ++ ".<locals>." := by rfl)
    (hdb : (x == ("__debug__" : Str)) = false := by decide) (hd : (a == ("__debug__" : Str)) = false := by decide) (hcd : (a == ("__classdict__" : Str)) = false := by decide) :
    PE X (.Call (.Name x p) [.Lambda params body scope lpos] [] pos) (tLam (tabL K' fs) TT t) := by
  subst hK hM hB
  obtain ⟨oc, od, dV, kV, doc, pm, an, cdv, ct, osl, efd, lk, hcg, _⟩ := F.ex
  subst efd
  have hG' : GivesTo X Ng x sg g cdv bg a (X.env.qual ++ "<lambda>") TT := by rw [hq]; exact hG cdv
  have mem : (P, X.env.qual ++ "<lambda>") ∈ tabL X.K fs := by rw [hq]; exact tabL_mem hx e
  exact pe_lamcall hg hm F.kp lk hcg hb Sg hNg hva hG' (TB _ (tabsIn_mem hx e)) (hcode c (codeOf_tab e)) mem (fun q hq ep => tabU_ok U hq mem ep) hr L hdef hbind hbody hdb hd hcd
/-- reading of such a call -/
theorem r_lam {T : List (Addr × Str)} {TT : (XK → Hp → VK → Prop) → Hp → VK → Prop} {t : XK → TE} {σ : L2.St} {H : Hp} {Q : VK} (h : Tabs T H) (q : ∀ H1, Fr T [] H H1 → Tabs T H1 → TT (fun E H' Q' => t E σ H' Q') H1 Q) : tLam T TT t σ H Q := ⟨h, fun H1 e t1 => q H1 (.ext e t1) t1⟩
end LL
/-! LX6: methods without arguments; == with a value of another kind; what a suite asks. -/
namespace LL
open PySem PySem.Spec PyProof.Rows L2 LamX

section
variable {X : Cx} {CX : CXT} {g : Bool} {k : Nat} {f C : Addr} {fd : FuncData} {ps : List Str} {sp : Sp} {dvs : List V} {ds : List Value} {E : XK} {m : Str} {pos apos : Pos} {o : Expr} {ta : TE}
/-- o.m() -/
theorem pg_meth0 {pl : Sem Bool} (he : PE X o ta) (c : Cls X.K C) (hm : Meth X.K C m f) (F : FnG X.prog X.w X.K X.mg X.base CX g k f fd ps sp) (hr : Room k X.A) (hg : Clr g X.A) (hb : Binds X.K fd ps ds) (hd : Vals dvs ds)
    (hx : Passes CX X E)
    (ht : eval (.Call (.Attribute o m apos) [] [] pos) X.env = (do let ov ← eval o X.env; standAt apos.atName; let (f, first) ← holding [ov] (getMethod ov m pl); callWith pos f first (backTo pos (starEach [] X.env)) (backToKw pos (keywordEach [] X.env))) := by rfl) :
    PE X (.Call (.Attribute o m apos) [] [] pos) (tMeth C m sp dvs E ta tNil) := by
  constructor
  intro pins s σ H Q I h
  refine PySem.W.methodCall_KW (pl := pl) (thn (he.run pins s σ H _ I h) ?_) ht
  rintro u s1 ⟨y, H1, I1, ry, a, dx, fs, ey, ea, l, q⟩
  subst ey
  obtain rfl : u = Value.ref a := ry
  refine getmeth_ok I1 ea c hm l (PySem.W.callWith_K0 I1.kIn hm.kp (run_gX (us := [.ref a]) (vs := [.ref a]) F hr hg hb hd hx I1 (.cons rfl .nil) q))
end
/-- x == y by the own __eq__, y of a built-in type -/
def rEqX (K : PySem.W.Frag) (C : Addr) (Ts : List String) (sp : Sp) (E : XK) : R2 := fun x y H Q => ∃ a, x = .ref a ∧ InsAt C H a ∧ (∃ T, TyX K H y (.type T) ∧ T ∈ Ts) ∧ sp [x, y] H Q E
section
variable {X : Cx} {CX : CXT} {g : Bool} {k : Nat} {f C : Addr} {fd : FuncData} {ps : List Str} {sp : Sp} {E : XK} {Ts : List String}
theorem op_eqX (O : EqOwn X.K C f Ts) (F : FnG X.prog X.w X.K X.mg X.base CX g k f fd ps sp) (hr : Room k X.A) (hg : Clr g X.A) (hb : Binds X.K fd ps []) (hx : Passes CX X E) : OpR X (compareOp .Eq) (rEqX X.K C Ts sp E) := by
  intro pins s σ H x y v u Q I rx ry h
  obtain ⟨a, rfl, ⟨dx, fs, ea⟩, ⟨T, ty, hm⟩, q⟩ := h
  obtain rfl : v = Value.ref a := rx
  obtain ⟨ox, od, J⟩ := inst_of I ea
  obtain ⟨m, Fr0⟩ := I.fr
  have body : wpAny (model X.prog X.w) X.A (call (.ref f) [.ref a, u]) (PySem.W.CmpBack (EP X pins σ Q)) X.xe s :=
    wpAny_mono (run_gX (us := [.ref a, u]) (vs := [.ref a, y]) (dvs := []) F hr hg hb .nil hx I (.cons rfl (.cons ry .nil)) q) (fun w s' z => by
      obtain ⟨z1, H', I', r', q'⟩ := z
      exact not_ni r' ⟨z1, H', I', r', q'⟩) fun _ _ z => z
  obtain ⟨P0, Z, p, _⟩ := kit_of I ry ty
  show wpAny (model X.prog X.w) X.A (richCompare .Eq (.ref a) u) (EP X pins σ Q) X.xe s
  exact PySem.W.cmp_K hr.units0 Fr0 I.ok.mod.kin J (Z.ty _ _ I.kIn p) (O.ts T hm) O.at_ O.fn body
end
/-- isinstance(e, c) of the caught error, its class D -/
def rIsED (K : PySem.W.Frag) (a : Addr) (cls : Value) (d : Option Addr) (D : Addr) : List V → Hp → VK → Prop := fun xs H Q => cls = .ref D ∧ ∃ (dd : Addr) (c : V) (cv : Value) (b : Bool) (fs : List (Str × V)), d = some dd ∧ xs = [.ref a, c] ∧ H dd = some (.xd fs) ∧ ClsV c cv ∧ PySem.W.kitOne K (.ref D) cv = some b ∧ Q (.bl b) H
theorem call_isEg {X : Cx} {a D : Addr} {oe : Obj} {cls : Value} {d : Option Addr} {pn : List (Addr × Obj)} (T : ExcC X.K D) (hz : Zc cls d oe) (hf : ∃ vs, oe.data = .fields vs) :
    CallR (X.suite a ((a, oe) :: pn)) (.builtin "isinstance") (rIsED X.K a cls d D) := by
  intro pins s σ H xs us Q I r h
  obtain ⟨rfl, dd, c, cv, b, fs, rfl, rfl, ed, hc, e, q⟩ := h
  exact call_isED T hz hf pins s σ H _ us Q I r ⟨c, cv, b, fs, rfl, ed, fun u ru => hc.eq ru, e, q⟩
/-- a wish that depends on what the body's call may let out -/
theorem pss_ex {X : Cx} {body : List Stmt} {W : WX} {tb : XK → TS} (h : ∀ Ech : XK, (∀ (cls : Value) (d : Option Addr) (σ' : L2.St) (H' : Hp), Ech cls d H' → W cls d σ' H') → PSs X body (tb Ech)) :
    PSs X body (fun D σ H => ∃ Ech : XK, (∀ (cls : Value) (d : Option Addr) (σ' : L2.St) (H' : Hp), Ech cls d H' → W cls d σ' H') ∧ tb Ech D σ H) := by
  constructor
  intro pins s σ H D I q
  obtain ⟨Ech, hW, q⟩ := q
  exact (h Ech hW).run pins s σ H D I q
/-- there are as many slots as names -/
theorem pss_len {X : Cx} {sts : List Stmt} {t : TS} {n : Nat} (e : X.N.length = n) (h : PSs X sts t) : PSs X sts (fun D σ H => σ.length = n → t D σ H) := by
  constructor
  intro pins s σ H D I q
  exact h.run pins s σ H D I (q (I.len.trans e))
theorem three {α : Type} {l : List α} (h : l.length = 3) : ∃ a b c, l = [a, b, c] := by
  match l, h with
  | [a, b, c], _ => exact ⟨a, b, c, rfl⟩
/-! readings -/
section
variable {K : PySem.W.Frag} {a C dd : Addr} {cls : Value} {d : Option Addr} {f : Str} {te : TE} {σ : L2.St} {H : Hp} {Q : VK} {v : V} {z : Str}
theorem r_xf (q : te σ H fun x H1 => x = .ref a ∧ cls = .ref C ∧ ∃ (dd : Addr) (fs : List (Str × V)) (v : V), d = some dd ∧ H1 dd = some (.xd fs) ∧ fs.lookup f = some v ∧ Q v H1) : tXf a cls d C f te σ H Q := q
theorem r_xfAt (h : H dd = some (.xd [(f, v)])) (q : Q v H) : V.ref a = .ref a ∧ Value.ref C = .ref C ∧ ∃ (dd' : Addr) (fs : List (Str × V)) (v : V), some dd = some dd' ∧ H dd' = some (.xd fs) ∧ fs.lookup f = some v ∧ Q v H := ⟨rfl, rfl, dd, _, v, rfl, h, by simp [List.lookup], q⟩
theorem TyX.same {K : PySem.W.Frag} {H H' : Hp} {v : V} {t : Value} (h : TyX K H v t) (s : Same H H') : TyX K H' v t := by
  cases h with
  | base b =>
    refine .base ?_
    cases b with
    | non => exact .non
    | bl y => exact .bl y
    | int i => exact .int i
    | str y => exact .str y
    | flt y => exact .flt y
    | lst e => exact .lst (s _ _ e)
    | frz e => exact .frz (s _ _ e)
    | tup e => exact .tup (s _ _ e)
    | dK e => exact .dK (s _ _ e)
    | dT e => exact .dT (s _ _ e)
    | ins e cl ha hn htk hm => exact .ins (s _ _ e) cl ha hn htk hm
  | byt b => exact .byt b
  | set e => exact .set (s _ _ e)
  | kList e c => exact .kList e c
  | kTuple e c => exact .kTuple e c
  | kDict e c => exact .kDict e c
  | fTuple e => exact .fTuple (s _ _ e)
  | fDict e => exact .fDict (s _ _ e)
theorem r_sl {r : V → Option Int → Option Int → Hp → VK → Prop} {tl th : TO} (q : te σ H fun x H1 => tl σ H1 fun l H2 => th σ H2 fun u H3 => r x l u H3 Q) : L2.tSl r te tl th σ H Q := q
theorem r_noPart {QO : Option Int → Hp → Prop} (q : QO none H) : tNoPart σ H QO := q
theorem r_part {QO : Option Int → Hp → Prop} (q : te σ H fun x H1 => ∃ i, x = .int i ∧ QO (some i) H1) : tPart te σ H QO := q
theorem r_partI {A : Int → Prop} {i : Int} (q : A i) : ∃ j, V.int i = .int j ∧ A j := ⟨i, rfl, q⟩
theorem r_cutS {lo hi : Option Int} (h : z.length ≤ 100000) (q : Q (.str (cutS z lo hi)) H) : rSlS (.str z) lo hi H Q := ⟨z, rfl, Nat.le_trans h (by decide), q⟩
theorem r_chain {r r' : R2} {ta tb tc : TE} (q : ta σ H fun x H1 => tb σ H1 fun y H2 => r x y H2 fun z H3 => ∃ k, z = .bl k ∧ (if k = true then tc σ H3 fun w' H4 => r' y w' H4 Q else Q (.bl false) H3)) : tChain r r' ta tb tc σ H Q := q
theorem r_lenS (h : z.length ≤ 100000) (q : Q (.int z.length) H) : (fun xs H Q => ∃ x n, xs = [x] ∧ LenV K x H n ∧ Q (V.int n) H) [.str z] H Q := ⟨_, _, rfl, ⟨Nat.le_trans h (by decide), rfl⟩, q⟩
theorem q_lenS {A : V → Nat → Prop} (h : z.length ≤ 100000) (q : A (.str z) z.length) : ∃ x n, [V.str z] = [x] ∧ LenV K x H n ∧ A x n := ⟨_, _, rfl, ⟨Nat.le_trans h (by decide), rfl⟩, q⟩
theorem q_lenL {A : V → Nat → Prop} {p : Addr} {xs : List V} (h : SqL K H p xs) (q : A (.ref p) xs.length) : ∃ x n, [V.ref p] = [x] ∧ LenV K x H n ∧ A x n := ⟨_, _, rfl, .inl ⟨xs, h, rfl⟩, q⟩
theorem r_ixS {m : Int} {c : Nat} (h : z.length ≤ 100000) (e : atI z.cps.toList m = some c) (q : Q (.str ⟨#[c]⟩) H) : rIxS (.str z) (.int m) H Q := ⟨z, m, c, rfl, rfl, Nat.le_trans h (by decide), e, q⟩
theorem r_repr (h : RpV K H v z) (q : Q (.str z) H) : rRpV K [v] H Q := ⟨v, z, rfl, h, q⟩
end
end LL
/-! LX7: texts: cut, joined. -/
namespace LL
open PySem PySem.Spec PyProof.Rows L2 TL

theorem len_tl (z : Str) : z.length = (tl z).length := by
  show z.cps.size = z.cps.toList.length
  simp
theorem tl_inj {x y : Str} (h : tl x = tl y) : x = y := by
  cases x with
  | mk a => cases y with
    | mk b =>
      have e : a.toList = b.toList := h
      rw [show a = b from Array.toList_inj.mp e]
theorem tl_app (x y : Str) : tl (x ++ y) = tl x ++ tl y := Array.toList_append
theorem tl_to (z : Str) {m : Nat} (h : m ≤ z.length) : tl (cutS z none (some (m : Int))) = (tl z).take m := by
  unfold cutS
  rw [HT.sIx_nat, HT.sIx_none, Nat.sub_zero, List.drop_zero, Nat.min_eq_left h]
theorem tl_from (z : Str) (m : Nat) : tl (cutS z (some (m : Int)) none) = (tl z).drop m := by
  unfold cutS
  rw [HT.sIx_nat, HT.sIx_none, List.toList_toArray]
  rw [List.take_of_length_le (by simp only [List.length_drop]; rw [← len_tl]; omega)]
  by_cases h : m ≤ z.length
  · rw [Nat.min_eq_left h]
  · rw [Nat.min_eq_right (by omega), len_tl, List.drop_length, List.drop_of_length_le (by rw [← len_tl]; omega)]
theorem len_to (z : Str) {m : Int} (h0 : 0 ≤ m) (h : m ≤ z.length) : ((cutS z none (some m)).length : Int) = m := by
  obtain ⟨k, rfl⟩ := Int.eq_ofNat_of_zero_le h0
  have hk : k ≤ z.length := by omega
  rw [len_tl, tl_to z hk, List.length_take, ← len_tl, Nat.min_eq_left hk]
theorem ok8_tl {x : Str} : Ok8 x ↔ ∀ c ∈ tl x, c < 16 ^ 8 := Iff.rfl
theorem ok8_to {z : Str} (h : Ok8 z) {m : Int} (h0 : 0 ≤ m) (hm : m ≤ z.length) : Ok8 (cutS z none (some m)) := by
  obtain ⟨k, rfl⟩ := Int.eq_ofNat_of_zero_le h0
  intro c hc
  have hc : c ∈ tl (cutS z none (some (k : Int))) := hc
  rw [tl_to z (by omega)] at hc
  exact h c (List.mem_of_mem_take hc)
theorem tl_join0 {y : Str} (hy : tl y = []) (ys : List Str) : tl (Txt.join y ys) = (ys.map tl).flatten := by
  rw [join_eq, tl_join, hy]
  induction ys with
  | nil => rfl
  | cons a r ih =>
    cases r with
    | nil => simp [joinL]
    | cons b r =>
      show tl a ++ ([] ++ joinL [] ((b :: r).map tl)) = _
      rw [List.nil_append, ih]
      rfl
theorem len_join0 {y : Str} (hy : tl y = []) (ys : List Str) : (Txt.join y ys).length = (ys.map (·.length)).sum := by
  rw [len_tl, tl_join0 hy, List.length_flatten, List.map_map]
  congr 1
theorem ok8_join0 {y : Str} (hy : tl y = []) {ys : List Str} (h : ∀ x ∈ ys, Ok8 x) : Ok8 (Txt.join y ys) := by
  intro c hc
  have hc : c ∈ tl (Txt.join y ys) := hc
  rw [tl_join0 hy] at hc
  obtain ⟨l, hl, hm⟩ := List.mem_flatten.mp hc
  obtain ⟨x, hx, rfl⟩ := List.mem_map.mp hl
  exact h x hx c hm
theorem tl_nil : tl (Str.ofString "") = [] := by decide +kernel
/-- single signs -/
def One (z : Str) : Prop := z.length = 1
theorem sum_one {ys : List Str} (h : ∀ x ∈ ys, One x) : (ys.map (·.length)).sum = ys.length := by
  induction ys with
  | nil => rfl
  | cons a r ih =>
    rw [List.map_cons, List.sum_cons, ih fun x hx => h x (List.mem_cons_of_mem _ hx), h a (List.mem_cons_self ..), List.length_cons]
    omega
theorem r_join {K : PySem.W.Frag} {H : Hp} {Q : VK} {a : Str} {p : Addr} {ys : List Str} (h : SqL K H p (ys.map V.str)) (hz : (ys.map (·.length)).sum + ys.length * a.length ≤ 16777216) (q : Q (.str (Txt.join a ys)) H) :
    (fun x xs H Q => ∃ a p, ∃ ys : List Str, x = V.str a ∧ xs = [V.ref p] ∧ (SqL K H p (ys.map V.str) ∨ SqT K H p (ys.map V.str)) ∧ (ys.map (·.length)).sum + ys.length * a.length ≤ 16777216 ∧ Q (V.str (Txt.join a ys)) H) (.str a) [.ref p] H Q := ⟨a, p, ys, rfl, rfl, .inl h, hz, q⟩
end LL
/-! LX8: how long what repr shows is. -/
namespace LL
open PySem PySem.Spec PyProof.Rows L2 TL

mutual
/-- a bound of the text -/
def szD : PyData → Nat
  | .none => 4
  | .bool _ => 5
  | .int _ => 1921
  | .str x => 10 * x.length + 2
  | .list xs => szAll xs + 4
  | .tuple xs => szAll xs + 4
  | .dict _ => 0
def szAll : List PyData → Nat
  | [] => 0
  | x :: xs => szD x + 2 + szAll xs
end
mutual
/-- no dict, strings of signs, ints that may be shown -/
def shwB : PyData → Prop
  | .none => True
  | .bool _ => True
  | .int i => i.natAbs.log2 < 1920
  | .str x => Ok8 x
  | .list xs => shwAll xs
  | .tuple xs => shwAll xs
  | .dict _ => False
def shwAll : List PyData → Prop
  | [] => True
  | x :: xs => shwB x ∧ shwAll xs
end
theorem piled_tuple (ts : List Str) : (tupleText ts).length ≤ piled ts + 4 := by
  unfold tupleText
  rw [strLen_append, strLen_append]
  have e1 : ((("(" : String) : Str)).length = 1 := rfl
  have e3 : (((if ts.length == 1 then ",)" else ")" : String) : Str)).length ≤ 2 := by split <;> decide
  rw [e1]
  cases ts with
  | nil => show 1 + (Str.join ", " []).length + _ ≤ _; have : (Str.join ", " []).length = 0 := rfl; rw [this]; omega
  | cons a r =>
    have := join_length_add (a :: r) (by simp)
    omega
theorem piled_list (ts : List Str) : (listText ts).length ≤ piled ts + 4 := by
  cases ts with
  | nil => rw [listText_nil]; decide
  | cons a r =>
    have e : listText (a :: r) = textFrom 1 (("[" : Str) ++ (if (0 : Nat) > 0 then ", " else "" : String) ++ a) r ++ "]" := rfl
    rw [e, strLen_append, textFrom_length_pos _ _ _ (by decide), strLen_append, strLen_append, piled_cons]
    have e1 : ((("[" : String) : Str)).length = 1 := rfl
    have e2 : ((("]" : String) : Str)).length = 1 := rfl
    have e3 : (((if (0 : Nat) > 0 then ", " else "" : String) : Str)).length = 0 := by decide
    rw [e1, e2, e3]
    omega
mutual
theorem shown_sz : ∀ d : PyData, shwB d → d.shown.length ≤ szD d
  | .none, _ => by simp only [PyData.shown, szD]; decide
  | .bool b, _ => by simp only [PyData.shown, szD]; cases b <;> decide
  | .int i, h => by
    simp only [shwB] at h
    simp only [PyData.shown, szD]
    have := int_text_len_1921 h
    omega
  | .str x, h => by
    simp only [shwB] at h
    simp only [PyData.shown, szD]
    exact h.len
  | .list xs, h => by
    simp only [shwB] at h
    simp only [PyData.shown, szD]
    have := shown_szAll xs h
    have := piled_list (PyData.shownAll xs)
    omega
  | .tuple xs, h => by
    simp only [shwB] at h
    simp only [PyData.shown, szD]
    have := shown_szAll xs h
    have := piled_tuple (PyData.shownAll xs)
    omega
  | .dict _, h => by simp only [shwB] at h
theorem shown_szAll : ∀ xs : List PyData, shwAll xs → piled (PyData.shownAll xs) ≤ szAll xs
  | [], _ => by simp only [PyData.shownAll, szAll]; exact Nat.le_refl _
  | x :: xs, h => by
    simp only [shwAll] at h
    simp only [PyData.shownAll, szAll, piled_cons]
    have := shown_sz x h.1
    have := shown_szAll xs h.2
    omega
end
mutual
theorem showable_of : ∀ d : PyData, shwB d → d.showable = true
  | .none, _ => by simp only [PyData.showable]
  | .bool b, _ => by simp only [PyData.showable]
  | .int i, h => by simp only [shwB] at h; simp only [PyData.showable, decide_eq_true h]
  | .str x, _ => by simp only [PyData.showable]
  | .list xs, h => by simp only [shwB] at h; simp only [PyData.showable]; exact showableAll_of xs h
  | .tuple xs, h => by simp only [shwB] at h; simp only [PyData.showable]; exact showableAll_of xs h
  | .dict _, h => by simp only [shwB] at h
theorem showableAll_of : ∀ xs : List PyData, shwAll xs → PyData.showableAll xs = true
  | [], _ => by simp only [PyData.showableAll]
  | x :: xs, h => by
    simp only [shwAll] at h
    simp only [PyData.showableAll, showable_of x h.1, showableAll_of xs h.2, Bool.and_self]
end
mutual
theorem noDict_of : ∀ d : PyData, shwB d → d.hasDict = false
  | .none, _ => by simp only [PyData.hasDict]
  | .bool b, _ => by simp only [PyData.hasDict]
  | .int i, _ => by simp only [PyData.hasDict]
  | .str x, _ => by simp only [PyData.hasDict]
  | .list xs, h => by simp only [shwB] at h; simp only [PyData.hasDict]; exact noDictAll_of xs h
  | .tuple xs, h => by simp only [shwB] at h; simp only [PyData.hasDict]; exact noDictAll_of xs h
  | .dict _, h => by simp only [shwB] at h
theorem noDictAll_of : ∀ xs : List PyData, shwAll xs → PyData.hasDictAll xs = false
  | [], _ => by simp only [PyData.hasDictAll]
  | x :: xs, h => by
    simp only [shwAll] at h
    simp only [PyData.hasDictAll, noDict_of x h.1, noDictAll_of xs h.2, Bool.or_self]
end
/-- repr of data -/
theorem rpv {K : PySem.W.Frag} {H : Hp} {v : V} {d : PyData} (h : Dp K H v d) (s : shwB d) (h1 : d.depth ≤ 16) (h2 : szD d ≤ 100000) : RpV K H v d.shown :=
  .inl ⟨d, h, showable_of d s, noDict_of d s, h1, rfl, Nat.le_trans (shown_sz d s) (Nat.le_trans h2 (by decide))⟩
theorem shown_le {d : PyData} (s : shwB d) (h : szD d ≤ 100000) : d.shown.length ≤ sizeLine := Nat.le_trans (shown_sz d s) (Nat.le_trans h (by decide))
theorem rpv0 {K : PySem.W.Frag} {H : Hp} {a : Addr} (h : H a = some (.dK [])) : RpV K H (.ref a) (PyData.shown (.dict [])) := .inr ⟨a, rfl, h, rfl⟩
mutual
theorem Dp.same {K : PySem.W.Frag} {H H' : Hp} (s : Same H H') : ∀ (d : PyData) (v : V), Dp K H v d → Dp K H' v d
  | .none, _, h => by cases h; exact .non
  | .bool b, _, h => by cases h; exact .bl b
  | .int i, _, h => by cases h; exact .int i
  | .str x, _, h => by cases h; exact .str x
  | .list xs, _, h => by
    cases h with
    | lst h1 h2 => exact .lst (s.seq h1) (DpAll.same s xs _ h2)
  | .tuple xs, _, h => by
    cases h with
    | tup h1 h2 =>
      refine .tup ?_ (DpAll.same s xs _ h2)
      rcases h1 with (h1 | ⟨o, h1⟩) | h1
      · exact .inl (.inl (s _ _ h1))
      · exact .inl (.inr ⟨o, s _ _ h1⟩)
      · exact .inr h1
  | .dict _, _, h => by cases h
theorem DpAll.same {K : PySem.W.Frag} {H H' : Hp} (s : Same H H') : ∀ (ds : List PyData) (vs : List V), DpAll K H vs ds → DpAll K H' vs ds
  | [], _, h => by cases h; exact .nil
  | d :: ds, _, h => by
    cases h with
    | cons h1 h2 => exact .cons (Dp.same s d _ h1) (DpAll.same s ds _ h2)
end
theorem RpV.same {K : PySem.W.Frag} {H H' : Hp} {v : V} {z : Str} (h : RpV K H v z) (s : Same H H') : RpV K H' v z := by
  rcases h with ⟨d, hd, r⟩ | ⟨a, rfl, e, r⟩
  · exact .inl ⟨d, Dp.same s d v hd, r⟩
  · exact .inr ⟨a, rfl, s _ _ e, r⟩
theorem wCls_yes {K : PySem.W.Frag} {Wo : WX} {D : Ends} {q : Cl} {r : List Cl} {cls : Value} {d : Option Addr} {σ : L2.St} {H : Hp} (e : PySem.W.exmOne K cls q.c = some true) (h : ∀ a, H a = none → q.ts a cls d (endsOff q.i D) (σ.set q.i (some (.ref a))) H) : wCls K Wo D (q :: r) cls d σ H := ⟨true, e, fun _ => h, fun z => absurd z (by decide)⟩
theorem wCls_no {K : PySem.W.Frag} {Wo : WX} {D : Ends} {q : Cl} {r : List Cl} {cls : Value} {d : Option Addr} {σ : L2.St} {H : Hp} (e : PySem.W.exmOne K cls q.c = some false) (h : wCls K Wo D r cls d σ H) : wCls K Wo D (q :: r) cls d σ H := ⟨false, e, fun z => absurd z (by decide), fun _ => h⟩
theorem lk1 (f : Str) (v : V) : [(f, v)].lookup f = some v := by simp [List.lookup]
theorem upd_of {H H' : Hp} {p : Addr} {o : HO} (e : H' p = some o) (ne : ∀ b, b ≠ p → H' b = H b) : H' = upd H p o := by
  funext b
  by_cases h : b = p
  · subst h; rw [e, upd_same]
  · rw [ne b h, upd_ne h]
theorem same_upd {H : Hp} {p : Addr} {o : HO} (h : H p = none) : Same H (upd H p o) := fun b u e => by rw [upd_ne (ne_of_none e h)]; exact e
/-! == and != of data that are alike -/
theorem r_eqDs {K : PySem.W.Frag} {H : Hp} {Q : VK} {x y : V} {d : PyData} (hx : Dp K H x d) (hy : Dp K H y d) (h : SeqAt.shaped d = true) (q : Q (.bl true) H) : rEqD K x y H Q :=
  ⟨d, d, hx, hy, h, h, by rw [SeqAt.eqv_refl d (SeqAt.canLay_of_shaped h)]; exact q⟩
theorem r_neDs {K : PySem.W.Frag} {H : Hp} {Q : VK} {x y : V} {d : PyData} (hx : Dp K H x d) (hy : Dp K H y d) (h : SeqAt.shaped d = true) (q : Q (.bl false) H) : rNeD K x y H Q :=
  ⟨d, d, hx, hy, h, h, by rw [SeqAt.eqv_refl d (SeqAt.canLay_of_shaped h)]; exact q⟩
theorem dp_told {K : PySem.W.Frag} {H : Hp} {t : Addr} {w z : Str} {b : Bool} (h : H t = some (.tup [.str w, .str z, .bl b])) : Dp K H (.ref t) (.tuple [.str w, .str z, .bool b]) :=
  .tup (.inl (.inl h)) (.cons (.str w) (.cons (.str z) (.cons (.bl b) .nil)))
theorem r_dnew {σ : L2.St} {H : Hp} {Q : VK} (q : ∀ p H', H p = none → Same H H' → H' p = some (.dK []) → (∀ b, b ≠ p → H' b = H b) → Q (.ref p) H') : tDNewK σ H Q := fun p hp => q p _ hp (same_upd hp) upd_same fun b hb => upd_ne hb
end LL
/-! LX9: texts of signs below 128; what repr shows of them. -/
namespace LL
open PySem PySem.Spec PyProof.Rows L2 TL PySem.Builtin PySem.Builtin.Str

def Asc (x : Str) : Prop := ∀ c ∈ tl x, c < 128
theorem Asc.ok8 {x : Str} (h : Asc x) : Ok8 x := fun c hc => Nat.lt_trans (h c hc) (by decide)
theorem Asc.strOk {x : Str} (h : Asc x) : PyData.strOk x = true := by
  unfold PyData.strOk
  rw [← Array.all_toList]
  exact List.all_eq_true.mpr fun c hc => decide_eq_true (Nat.lt_trans (h c hc) (by decide))
theorem Asc.app {x y : Str} (hx : Asc x) (hy : Asc y) : Asc (x ++ y) := fun c hc => by
  rw [tl_app] at hc
  exact (List.mem_append.mp hc).elim (hx c) (hy c)
def ascB (x : Str) : Bool := (tl x).all (· < 128)
theorem asc_by {x : Str} (h : ascB x = true) : Asc x := fun c hc => of_decide_eq_true (List.all_eq_true.mp h c hc)
theorem asc_one {c : Nat} (h : c < 128) : Asc ⟨#[c]⟩ := fun d hd => by
  have hd : d ∈ [c] := hd
  rw [List.mem_singleton.mp hd]; exact h
theorem asc_to {z : Str} (h : Asc z) {m : Int} (h0 : 0 ≤ m) (hm : m ≤ z.length) : Asc (cutS z none (some m)) := by
  obtain ⟨k, rfl⟩ := Int.eq_ofNat_of_zero_le h0
  intro c hc
  rw [tl_to z (by omega)] at hc
  exact h c (List.mem_of_mem_take hc)
theorem asc_from {z : Str} (h : Asc z) (k : Nat) : Asc (cutS z (some (k : Int)) none) := by
  intro c hc
  rw [tl_from] at hc
  exact h c (List.mem_of_mem_drop hc)
theorem asc_join0 {y : Str} (hy : tl y = []) {ys : List Str} (h : ∀ x ∈ ys, Asc x) : Asc (Txt.join y ys) := by
  intro c hc
  rw [tl_join0 hy] at hc
  obtain ⟨l, hl, hm⟩ := List.mem_flatten.mp hc
  obtain ⟨x, hx, rfl⟩ := List.mem_map.mp hl
  exact h x hx c hm
theorem asc_nat (n : Nat) : Asc (Str.ofString (toString (n : Int))) := fun c hc => by
  rw [tl_num] at hc
  have := numL_digits n c hc
  omega
theorem asc_int (i : Int) : Asc (Str.ofString (toString i)) := by
  cases i with
  | ofNat n => exact asc_nat n
  | negSucc n =>
    have e : toString (Int.negSucc n) = "-" ++ toString ((n + 1 : Nat) : Int) := by rfl
    have ea : Str.ofString ("-" ++ toString ((n + 1 : Nat) : Int)) = Str.ofString "-" ++ Str.ofString (toString ((n + 1 : Nat) : Int)) := tl_inj (by
      rw [tl_app]
      show (Str.ofString _).cps.toList = (Str.ofString _).cps.toList ++ (Str.ofString _).cps.toList
      rw [signs_ofString, signs_ofString, signs_ofString, String.toList_append, List.map_append])
    rw [e, ea]
    exact Asc.app (asc_by (by decide +kernel)) (asc_nat _)
/-! repr of a text -/
def chB (q c : Nat) : Bool := (reprChar q c).all (· < 128)
theorem ch_all : ∀ c : Nat, c < 128 → chB 39 c = true ∧ chB 34 c = true := by
  have h : (List.range 128).all (fun c => chB 39 c && chB 34 c) = true := by decide +kernel
  intro c hc
  have := List.all_eq_true.mp h c (List.mem_range.mpr hc)
  exact Bool.and_eq_true_iff.mp this
theorem quote_cases (x : Str) : reprQuote x = 39 ∨ reprQuote x = 34 := by
  unfold reprQuote
  split
  · exact .inr rfl
  · exact .inl rfl
theorem fold_asc (q : Nat) (hq : q = 39 ∨ q = 34) : ∀ (l : List Nat) (acc : Array Nat), (∀ c ∈ l, c < 128) → (∀ c ∈ acc.toList, c < 128) → ∀ c ∈ (l.foldl (fun out c => out ++ (reprChar q c).toArray) acc).toList, c < 128
  | [], acc, _, h => h
  | a :: r, acc, hl, h => by
    refine fold_asc q hq r _ (fun c hc => hl c (List.mem_cons_of_mem _ hc)) (fun c hc => ?_)
    rw [Array.toList_append] at hc
    rcases List.mem_append.mp hc with hc | hc
    · exact h c hc
    · obtain ⟨h1, h2⟩ := ch_all a (hl a (List.mem_cons_self ..))
      rcases hq with rfl | rfl
      · exact of_decide_eq_true (List.all_eq_true.mp h1 c hc)
      · exact of_decide_eq_true (List.all_eq_true.mp h2 c hc)
theorem asc_repr {x : Str} (h : Asc x) : Asc (reprText x) := by
  intro c hc
  have e : tl (reprText x) = ((x.cps.foldl (fun out c => out ++ (reprChar (reprQuote x) c).toArray) #[reprQuote x]).push (reprQuote x)).toList := rfl
  rw [e, Array.toList_push, ← Array.foldl_toList] at hc
  have hq : reprQuote x < 128 := by rcases quote_cases x with h | h <;> rw [h] <;> decide
  rcases List.mem_append.mp hc with hc | hc
  · exact fold_asc (reprQuote x) (quote_cases x) x.cps.toList #[reprQuote x] h (fun d hd => by
      have hd : d ∈ [reprQuote x] := hd
      rw [List.mem_singleton.mp hd]; exact hq) c hc
  · rw [List.mem_singleton.mp hc]; exact hq
theorem asc_textFrom : ∀ (ts : List Str) (k : Nat) (acc : Str), Asc acc → (∀ t ∈ ts, Asc t) → Asc (textFrom k acc ts)
  | [], _, acc, h, _ => h
  | t :: r, k, acc, h, ht => by
    refine asc_textFrom r (k + 1) _ (Asc.app (Asc.app h ?_) (ht t (List.mem_cons_self ..))) (fun u hu => ht u (List.mem_cons_of_mem _ hu))
    split <;> exact asc_by (by decide +kernel)
theorem asc_list {ts : List Str} (h : ∀ t ∈ ts, Asc t) : Asc (listText ts) := Asc.app (asc_textFrom ts 0 _ (asc_by (by decide +kernel)) h) (asc_by (by decide +kernel))
theorem asc_join : ∀ {ts : List Str}, (∀ t ∈ ts, Asc t) → Asc (Str.join ", " ts)
  | [], _ => asc_by (by decide +kernel)
  | [x], h => h x (List.mem_cons_self ..)
  | x :: y :: r, h => by
    show Asc (x ++ ", " ++ Str.join ", " (y :: r))
    exact Asc.app (Asc.app (h x (List.mem_cons_self ..)) (asc_by (by decide +kernel))) (asc_join fun t ht => h t (List.mem_cons_of_mem _ ht))
theorem asc_tuple {ts : List Str} (h : ∀ t ∈ ts, Asc t) : Asc (tupleText ts) := by
  unfold tupleText
  refine Asc.app (Asc.app (asc_by (by decide +kernel)) (asc_join h)) ?_
  split <;> exact asc_by (by decide +kernel)
mutual
/-- strings of signs below 128, no dict -/
def ascD : PyData → Prop
  | .none => True
  | .bool _ => True
  | .int _ => True
  | .str x => Asc x
  | .list xs => ascAll xs
  | .tuple xs => ascAll xs
  | .dict _ => False
def ascAll : List PyData → Prop
  | [] => True
  | x :: xs => ascD x ∧ ascAll xs
end
mutual
theorem asc_shown : ∀ d : PyData, ascD d → Asc d.shown
  | .none, _ => by simp only [PyData.shown]; exact asc_by (by decide +kernel)
  | .bool b, _ => by simp only [PyData.shown]; cases b <;> exact asc_by (by decide +kernel)
  | .int i, _ => by simp only [PyData.shown]; exact asc_int i
  | .str x, h => by simp only [ascD] at h; simp only [PyData.shown]; exact asc_repr h
  | .list xs, h => by simp only [ascD] at h; simp only [PyData.shown]; exact asc_list (asc_shownAll xs h)
  | .tuple xs, h => by simp only [ascD] at h; simp only [PyData.shown]; exact asc_tuple (asc_shownAll xs h)
  | .dict _, h => by simp only [ascD] at h
theorem asc_shownAll : ∀ xs : List PyData, ascAll xs → ∀ t ∈ PyData.shownAll xs, Asc t
  | [], _, t, ht => by simp only [PyData.shownAll] at ht; cases ht
  | x :: xs, h, t, ht => by
    simp only [ascAll] at h
    simp only [PyData.shownAll] at ht
    rcases List.mem_cons.mp ht with rfl | ht
    · exact asc_shown x h.1
    · exact asc_shownAll xs h.2 t ht
end
theorem shaped_told {w z : Str} (b : Bool) (hw : Asc w) (hz : Asc z) : SeqAt.shaped (.tuple [.str w, .str z, .bool b]) = true := by
  simp [SeqAt.shaped, PyData.canLay0, PyData.canLayAll0, PyData.depth, PyData.depthAll, hw.strOk, hz.strOk]
/-- the text of repr, in signs below 128 -/
def RpA (K : PySem.W.Frag) (H : Hp) (v : V) (z : Str) : Prop := RpV K H v z ∧ Asc z
theorem rpa {K : PySem.W.Frag} {H : Hp} {v : V} {d : PyData} (h : Dp K H v d) (s : shwB d) (a : ascD d) (h1 : d.depth ≤ 16) (h2 : szD d ≤ 100000) : RpA K H v d.shown := ⟨rpv h s h1 h2, asc_shown d a⟩
theorem rpa0 {K : PySem.W.Frag} {H : Hp} {a : Addr} (h : H a = some (.dK [])) : RpA K H (.ref a) (PyData.shown (.dict [])) := ⟨rpv0 h, asc_by (by decide +kernel)⟩
end LL
namespace LL
theorem log_small {n : Int} (h : n.natAbs < 2 ^ 64) : n.natAbs.log2 < 1920 := Nat.lt_of_lt_of_le (PySem.Flt.log2_lt_of (by decide) h) (by decide)
end LL
namespace LL
open PySem PySem.Spec PyProof.Rows L2
/-! what stays of values when tables change -/
def SamP (H H' : Hp) : Prop := ∀ b o, Pl o → H b = some o → H' b = some o
theorem SamP.of {H H' : Hp} (s : Same H H') : SamP H H' := fun b o _ e => s b o e
theorem Fr.samP {T : List (Addr × Str)} {H H' : Hp} (f : Fr T [] H H') : SamP H H' := fun b o p e => f.at_ e p (fun z => nomatch z)
theorem SamP.seqL {K : PySem.W.Frag} {H H' : Hp} {a : Addr} {xs : List V} (s : SamP H H') (h : SqL K H a xs) : SqL K H' a xs := by
  rcases h with (h | ⟨o, h⟩) | h
  · exact .inl (.inl (s _ _ trivial h))
  · exact .inl (.inr ⟨o, s _ _ trivial h⟩)
  · exact .inr h
theorem SamP.seqT {K : PySem.W.Frag} {H H' : Hp} {a : Addr} {xs : List V} (s : SamP H H') (h : SqT K H a xs) : SqT K H' a xs := by
  rcases h with (h | ⟨o, h⟩) | h
  · exact .inl (.inl (s _ _ trivial h))
  · exact .inl (.inr ⟨o, s _ _ trivial h⟩)
  · exact .inr h
theorem TyX.pl {K : PySem.W.Frag} {H H' : Hp} {v : V} {t : Value} (h : TyX K H v t) (s : SamP H H') : TyX K H' v t := by
  cases h with
  | base b =>
    refine .base ?_
    cases b with
    | non => exact .non
    | bl y => exact .bl y
    | int i => exact .int i
    | str y => exact .str y
    | flt y => exact .flt y
    | lst e => exact .lst (s _ _ trivial e)
    | frz e => exact .frz (s _ _ trivial e)
    | tup e => exact .tup (s _ _ trivial e)
    | dK e => exact .dK (s _ _ trivial e)
    | dT e => exact .dT (s _ _ trivial e)
    | ins e cl ha hn htk hm => exact .ins (s _ _ trivial e) cl ha hn htk hm
  | byt b => exact .byt b
  | set e => exact .set (s _ _ trivial e)
  | kList e c => exact .kList e c
  | kTuple e c => exact .kTuple e c
  | kDict e c => exact .kDict e c
  | fTuple e => exact .fTuple (s _ _ trivial e)
  | fDict e => exact .fDict (s _ _ trivial e)
mutual
theorem Dp.pl {K : PySem.W.Frag} {H H' : Hp} (s : SamP H H') : ∀ (d : PyData) (v : V), Dp K H v d → Dp K H' v d
  | .none, _, h => by cases h; exact .non
  | .bool b, _, h => by cases h; exact .bl b
  | .int i, _, h => by cases h; exact .int i
  | .str x, _, h => by cases h; exact .str x
  | .list xs, _, h => by
    cases h with
    | lst h1 h2 => exact .lst (s.seqL h1) (DpAll.pl s xs _ h2)
  | .tuple xs, _, h => by
    cases h with
    | tup h1 h2 => exact .tup (s.seqT h1) (DpAll.pl s xs _ h2)
  | .dict _, _, h => by cases h
theorem DpAll.pl {K : PySem.W.Frag} {H H' : Hp} (s : SamP H H') : ∀ (ds : List PyData) (vs : List V), DpAll K H vs ds → DpAll K H' vs ds
  | [], _, h => by cases h; exact .nil
  | d :: ds, _, h => by
    cases h with
    | cons h1 h2 => exact .cons (Dp.pl s d _ h1) (DpAll.pl s ds _ h2)
end
theorem RpV.pl {K : PySem.W.Frag} {H H' : Hp} {v : V} {z : Str} (h : RpV K H v z) (s : SamP H H') : RpV K H' v z := by
  rcases h with ⟨d, hd, r⟩ | ⟨a, rfl, e, r⟩
  · exact .inl ⟨d, Dp.pl s d v hd, r⟩
  · exact .inr ⟨a, rfl, s _ _ trivial e, r⟩
end LL
namespace K76
open PySem PySem.Spec PyProof.Rows L2 LL LamX
def top (i : Nat) : Stmt := PySem.Challenge.pw_leastlog_k76_disks.main.body.getD i (.Pass ⟨0, 0, 0, 0⟩)
abbrev s_InvalidRecordU_initU : Stmt := inClass (top 2) 0
abbrev s_InvalidLengthU_initU : Stmt := inClass (top 3) 0
abbrev s_is_whole : Stmt := top 5
abbrev s_check_string : Stmt := top 7
abbrev s_DiskU_initU : Stmt := inClass (top 9) 0
abbrev s_Disk_content : Stmt := inClass (top 9) 1
abbrev s_Disk_sure : Stmt := inClass (top 9) 2
abbrev s_Disk_append : Stmt := inClass (top 9) 3
abbrev s_Disk_sync : Stmt := inClass (top 9) 4
abbrev s_Disk_stopped : Stmt := inClass (top 9) 5
abbrev s_Disk_without_beginning : Stmt := inClass (top 9) 6
abbrev s_Disk_clone : Stmt := inClass (top 9) 7
abbrev s_DiskU_eqU : Stmt := inClass (top 9) 8
abbrev s_l_pot : Stmt := top 11
abbrev s_l_take : Stmt := top 12
abbrev s_l_pick : Stmt := top 13
abbrev s_l_text : Stmt := top 14
abbrev s_l_refused : Stmt := top 15
abbrev s_l_is_shown : Stmt := top 16
abbrev s_l_refusals_right : Stmt := top 17
abbrev s_l_changed : Stmt := top 18
abbrev s_l_left : Stmt := top 19
abbrev s_l_right : Stmt := top 20
abbrev s_law : Stmt := top 21
def ftabs : List Str := ["_law_refusals_right"]
structure Tx (K : PySem.W.Frag) (mg : Str → Option Value) where
  fd_InvalidRecordU_initU : FuncData
  fd_InvalidLengthU_initU : FuncData
  fd_is_whole : FuncData
  fd_check_string : FuncData
  fd_DiskU_initU : FuncData
  fd_Disk_content : FuncData
  fd_Disk_sure : FuncData
  fd_Disk_append : FuncData
  fd_Disk_sync : FuncData
  fd_Disk_stopped : FuncData
  fd_Disk_without_beginning : FuncData
  fd_Disk_clone : FuncData
  fd_DiskU_eqU : FuncData
  fd_l_pot : FuncData
  fd_l_take : FuncData
  fd_l_pick : FuncData
  fd_l_text : FuncData
  fd_l_refused : FuncData
  fd_l_is_shown : FuncData
  fd_l_refusals_right : FuncData
  fd_l_changed : FuncData
  fd_l_left : FuncData
  fd_l_right : FuncData
  fd_law : FuncData
  F_InvalidRecordU_initU : FunD K "__init__" "InvalidRecord.__init__" (defArgs s_InvalidRecordU_initU) (defBody s_InvalidRecordU_initU) (defScope s_InvalidRecordU_initU) [] [] (He.ma K (He.ga K "InvalidRecord") "__init__") fd_InvalidRecordU_initU
  F_InvalidLengthU_initU : FunD K "__init__" "InvalidLength.__init__" (defArgs s_InvalidLengthU_initU) (defBody s_InvalidLengthU_initU) (defScope s_InvalidLengthU_initU) [] [] (He.ma K (He.ga K "InvalidLength") "__init__") fd_InvalidLengthU_initU
  F_is_whole : FunD K "is_whole" "is_whole" (defArgs s_is_whole) (defBody s_is_whole) (defScope s_is_whole) [] [] (He.ga K "is_whole") fd_is_whole
  F_check_string : FunD K "check_string" "check_string" (defArgs s_check_string) (defBody s_check_string) (defScope s_check_string) [] [] (He.ga K "check_string") fd_check_string
  F_DiskU_initU : FunD K "__init__" "Disk.__init__" (defArgs s_DiskU_initU) (defBody s_DiskU_initU) (defScope s_DiskU_initU) [V.str ""] [] (He.ma K (He.ga K "Disk") "__init__") fd_DiskU_initU
  F_Disk_content : FunD K "content" "Disk.content" (defArgs s_Disk_content) (defBody s_Disk_content) (defScope s_Disk_content) [] [] (pget K "Disk" "content") fd_Disk_content
  F_Disk_sure : FunD K "sure" "Disk.sure" (defArgs s_Disk_sure) (defBody s_Disk_sure) (defScope s_Disk_sure) [] [] (pget K "Disk" "sure") fd_Disk_sure
  F_Disk_append : FunD K "append" "Disk.append" (defArgs s_Disk_append) (defBody s_Disk_append) (defScope s_Disk_append) [] [] (He.ma K (He.ga K "Disk") "append") fd_Disk_append
  F_Disk_sync : FunD K "sync" "Disk.sync" (defArgs s_Disk_sync) (defBody s_Disk_sync) (defScope s_Disk_sync) [] [] (He.ma K (He.ga K "Disk") "sync") fd_Disk_sync
  F_Disk_stopped : FunD K "stopped" "Disk.stopped" (defArgs s_Disk_stopped) (defBody s_Disk_stopped) (defScope s_Disk_stopped) [] [] (He.ma K (He.ga K "Disk") "stopped") fd_Disk_stopped
  F_Disk_without_beginning : FunD K "without_beginning" "Disk.without_beginning" (defArgs s_Disk_without_beginning) (defBody s_Disk_without_beginning) (defScope s_Disk_without_beginning) [] [] (He.ma K (He.ga K "Disk") "without_beginning") fd_Disk_without_beginning
  F_Disk_clone : FunD K "clone" "Disk.clone" (defArgs s_Disk_clone) (defBody s_Disk_clone) (defScope s_Disk_clone) [] [] (He.ma K (He.ga K "Disk") "clone") fd_Disk_clone
  F_DiskU_eqU : FunD K "__eq__" "Disk.__eq__" (defArgs s_DiskU_eqU) (defBody s_DiskU_eqU) (defScope s_DiskU_eqU) [] [] (He.ma K (He.ga K "Disk") "__eq__") fd_DiskU_eqU
  F_l_pot : FunD K "_law_pot" "_law_pot" (defArgs s_l_pot) (defBody s_l_pot) (defScope s_l_pot) [] [] (He.ga K "_law_pot") fd_l_pot
  F_l_take : FunD K "_law_take" "_law_take" (defArgs s_l_take) (defBody s_l_take) (defScope s_l_take) [] [] (He.ga K "_law_take") fd_l_take
  F_l_pick : FunD K "_law_pick" "_law_pick" (defArgs s_l_pick) (defBody s_l_pick) (defScope s_l_pick) [] [] (He.ga K "_law_pick") fd_l_pick
  F_l_text : FunD K "_law_text" "_law_text" (defArgs s_l_text) (defBody s_l_text) (defScope s_l_text) [] [] (He.ga K "_law_text") fd_l_text
  F_l_refused : FunD K "_law_refused" "_law_refused" (defArgs s_l_refused) (defBody s_l_refused) (defScope s_l_refused) [] [] (He.ga K "_law_refused") fd_l_refused
  F_l_is_shown : FunD K "_law_is_shown" "_law_is_shown" (defArgs s_l_is_shown) (defBody s_l_is_shown) (defScope s_l_is_shown) [] [] (He.ga K "_law_is_shown") fd_l_is_shown
  F_l_refusals_right : FunD K "_law_refusals_right" "_law_refusals_right" (defArgs s_l_refusals_right) (defBody s_l_refusals_right) (defScope s_l_refusals_right) [] [] (He.ga K "_law_refusals_right") fd_l_refusals_right
  F_l_changed : FunD K "_law_changed" "_law_changed" (defArgs s_l_changed) (defBody s_l_changed) (defScope s_l_changed) [] [] (He.ga K "_law_changed") fd_l_changed
  F_l_left : FunD K "_law_left" "_law_left" (defArgs s_l_left) (defBody s_l_left) (defScope s_l_left) [] [] (He.ga K "_law_left") fd_l_left
  F_l_right : FunD K "_law_right" "_law_right" (defArgs s_l_right) (defBody s_l_right) (defScope s_l_right) [] [] (He.ga K "_law_right") fd_l_right
  F_law : FunD K "law" "law" (defArgs s_law) (defBody s_law) (defScope s_law) [] [] (He.ga K "law") fd_law
  m_abs : mg "abs" = none
  m_all : mg "all" = none
  m_bool : mg "bool" = none
  m_divmod : mg "divmod" = none
  m_int : mg "int" = none
  m_isinstance : mg "isinstance" = none
  m_len : mg "len" = none
  m_list : mg "list" = none
  m_max : mg "max" = none
  m_min : mg "min" = none
  m_range : mg "range" = none
  m_repr : mg "repr" = none
  m_str : mg "str" = none
  g_is_whole : mg "is_whole" = some (.ref (He.ga K "is_whole"))
  g_check_string : mg "check_string" = some (.ref (He.ga K "check_string"))
  g_l_pot : mg "_law_pot" = some (.ref (He.ga K "_law_pot"))
  g_l_take : mg "_law_take" = some (.ref (He.ga K "_law_take"))
  g_l_pick : mg "_law_pick" = some (.ref (He.ga K "_law_pick"))
  g_l_text : mg "_law_text" = some (.ref (He.ga K "_law_text"))
  g_l_refused : mg "_law_refused" = some (.ref (He.ga K "_law_refused"))
  g_l_is_shown : mg "_law_is_shown" = some (.ref (He.ga K "_law_is_shown"))
  g_l_refusals_right : mg "_law_refusals_right" = some (.ref (He.ga K "_law_refusals_right"))
  g_l_changed : mg "_law_changed" = some (.ref (He.ga K "_law_changed"))
  g_l_left : mg "_law_left" = some (.ref (He.ga K "_law_left"))
  g_l_right : mg "_law_right" = some (.ref (He.ga K "_law_right"))
  g_law : mg "law" = some (.ref (He.ga K "law"))
  g_Disk : mg "Disk" = some (.ref (He.ga K "Disk"))
  c_Disk : Cls K (He.ga K "Disk")
  k_Disk : Mk K (He.ga K "Disk") (He.ma K (He.ga K "Disk") "__init__")
  n_Disk_content : NoAttr K (He.ga K "Disk") "_content"
  n_Disk_sure : NoAttr K (He.ga K "Disk") "_sure"
  mt_Disk_append : Meth K (He.ga K "Disk") "append" (He.ma K (He.ga K "Disk") "append")
  mt_Disk_sync : Meth K (He.ga K "Disk") "sync" (He.ma K (He.ga K "Disk") "sync")
  mt_Disk_stopped : Meth K (He.ga K "Disk") "stopped" (He.ma K (He.ga K "Disk") "stopped")
  mt_Disk_without_beginning : Meth K (He.ga K "Disk") "without_beginning" (He.ma K (He.ga K "Disk") "without_beginning")
  mt_Disk_clone : Meth K (He.ga K "Disk") "clone" (He.ma K (He.ga K "Disk") "clone")
  g_InvalidRecord : mg "InvalidRecord" = some (.ref (He.ga K "InvalidRecord"))
  g_InvalidLength : mg "InvalidLength" = some (.ref (He.ga K "InvalidLength"))
  g_LeastlogError : mg "LeastlogError" = some (.ref (He.ga K "LeastlogError"))
  p_Disk_content : PropOf K (He.ga K "Disk") "content" (He.ma K (He.ga K "Disk") "content") (pget K "Disk" "content")
  p_Disk_sure : PropOf K (He.ga K "Disk") "sure" (He.ma K (He.ga K "Disk") "sure") (pget K "Disk" "sure")
  o_Disk_eq : EqOwn K (He.ga K "Disk") (He.ma K (He.ga K "Disk") "__eq__") ["list"]
  o_Disk_ne : NeOwn K (He.ga K "Disk") (He.ma K (He.ga K "Disk") "__eq__") ["list"]
  i_Disk : IsiOwn K (He.ga K "Disk")
  kt_list_Disk : PySem.W.kitOne K (.type "list") (.ref (He.ga K "Disk")) = some false
  x_InvalidRecord : Oex K (He.ga K "InvalidRecord") (He.ma K (He.ga K "InvalidRecord") "__init__")
  nf_InvalidRecord : PySem.W.findIn K (.ref (He.ga K "InvalidRecord")) "value" = some none
  x_InvalidLength : Oex K (He.ga K "InvalidLength") (He.ma K (He.ga K "InvalidLength") "__init__")
  nf_InvalidLength : PySem.W.findIn K (.ref (He.ga K "InvalidLength")) "value" = some none
  e_InvalidLength_InvalidLength : PySem.W.exmOne K (.ref (He.ga K "InvalidLength")) (.ref (He.ga K "InvalidLength")) = some true
  e_InvalidRecord_InvalidLength : PySem.W.exmOne K (.ref (He.ga K "InvalidRecord")) (.ref (He.ga K "InvalidLength")) = some false
  e_InvalidRecord_InvalidRecord : PySem.W.exmOne K (.ref (He.ga K "InvalidRecord")) (.ref (He.ga K "InvalidRecord")) = some true
  k_InvalidLength_LeastlogError : PySem.W.kitOne K (.ref (He.ga K "InvalidLength")) (.ref (He.ga K "LeastlogError")) = some true
  k_InvalidRecord_LeastlogError : PySem.W.kitOne K (.ref (He.ga K "InvalidRecord")) (.ref (He.ga K "LeastlogError")) = some true
  tabU : tabU K ftabs = true
  tb_l_refusals_right : ∃ c P, tabOf K (He.ga K "_law_refusals_right") = some (c, P)
section
variable {K : PySem.W.Frag} {mg : Str → Option Value}
theorem Tx.b_InvalidRecordU_initU (T : Tx K mg) : Binds K T.fd_InvalidRecordU_initU ["self", "value"] [] := T.F_InvalidRecordU_initU.bindsN fun _ _ _ _ _ _ us hl => match us, hl with | [_, _], _ => rfl
theorem Tx.b_InvalidLengthU_initU (T : Tx K mg) : Binds K T.fd_InvalidLengthU_initU ["self", "value"] [] := T.F_InvalidLengthU_initU.bindsN fun _ _ _ _ _ _ us hl => match us, hl with | [_, _], _ => rfl
theorem Tx.b_is_whole (T : Tx K mg) : Binds K T.fd_is_whole ["value"] [] := T.F_is_whole.bindsN fun _ _ _ _ _ _ us hl => match us, hl with | [_], _ => rfl
theorem Tx.b_check_string (T : Tx K mg) : Binds K T.fd_check_string ["value"] [] := T.F_check_string.bindsN fun _ _ _ _ _ _ us hl => match us, hl with | [_], _ => rfl
theorem Tx.b_DiskU_initU_0 (T : Tx K mg) : ∃ ds, Vals [V.str ""] ds ∧ Binds K T.fd_DiskU_initU ["self", "text"] ds := T.F_DiskU_initU.binds1 (ps := ["self", "text"]) 1 0 (by simp) (by rfl) fun _ _ _ _ _ _ _ us its hl hi => match us, its, hl, hi with | [_], [_], _, _ => ⟨_, rfl, rfl⟩
theorem Tx.b_DiskU_initU (T : Tx K mg) : Binds K T.fd_DiskU_initU ["self", "text"] [] := by
  obtain ⟨ds, hv, hb⟩ := T.F_DiskU_initU.binds1 (ps := ["self", "text"]) 2 1 (by simp) (by rfl) fun _ _ _ _ _ _ _ us its hl hi => match us, its, hl, hi with | [_, _], [_], _, _ => ⟨_, rfl, rfl⟩
  cases hv; exact hb
theorem Tx.b_Disk_content (T : Tx K mg) : Binds K T.fd_Disk_content ["self"] [] := T.F_Disk_content.bindsN fun _ _ _ _ _ _ us hl => match us, hl with | [_], _ => rfl
theorem Tx.b_Disk_sure (T : Tx K mg) : Binds K T.fd_Disk_sure ["self"] [] := T.F_Disk_sure.bindsN fun _ _ _ _ _ _ us hl => match us, hl with | [_], _ => rfl
theorem Tx.b_Disk_append (T : Tx K mg) : Binds K T.fd_Disk_append ["self", "text"] [] := T.F_Disk_append.bindsN fun _ _ _ _ _ _ us hl => match us, hl with | [_, _], _ => rfl
theorem Tx.b_Disk_sync (T : Tx K mg) : Binds K T.fd_Disk_sync ["self"] [] := T.F_Disk_sync.bindsN fun _ _ _ _ _ _ us hl => match us, hl with | [_], _ => rfl
theorem Tx.b_Disk_stopped (T : Tx K mg) : Binds K T.fd_Disk_stopped ["self", "length"] [] := T.F_Disk_stopped.bindsN fun _ _ _ _ _ _ us hl => match us, hl with | [_, _], _ => rfl
theorem Tx.b_Disk_without_beginning (T : Tx K mg) : Binds K T.fd_Disk_without_beginning ["self", "length"] [] := T.F_Disk_without_beginning.bindsN fun _ _ _ _ _ _ us hl => match us, hl with | [_, _], _ => rfl
theorem Tx.b_Disk_clone (T : Tx K mg) : Binds K T.fd_Disk_clone ["self"] [] := T.F_Disk_clone.bindsN fun _ _ _ _ _ _ us hl => match us, hl with | [_], _ => rfl
theorem Tx.b_DiskU_eqU (T : Tx K mg) : Binds K T.fd_DiskU_eqU ["self", "other"] [] := T.F_DiskU_eqU.bindsN fun _ _ _ _ _ _ us hl => match us, hl with | [_, _], _ => rfl
theorem Tx.b_l_pot (T : Tx K mg) : Binds K T.fd_l_pot ["_law_script", "_law_k"] [] := T.F_l_pot.bindsN fun _ _ _ _ _ _ us hl => match us, hl with | [_, _], _ => rfl
theorem Tx.b_l_take (T : Tx K mg) : Binds K T.fd_l_take ["_law_pot_here", "_law_many"] [] := T.F_l_take.bindsN fun _ _ _ _ _ _ us hl => match us, hl with | [_, _], _ => rfl
theorem Tx.b_l_pick (T : Tx K mg) : Binds K T.fd_l_pick ["_law_pot_here", "_law_some"] [] := T.F_l_pick.bindsN fun _ _ _ _ _ _ us hl => match us, hl with | [_, _], _ => rfl
theorem Tx.b_l_text (T : Tx K mg) : Binds K T.fd_l_text ["_law_pot_here"] [] := T.F_l_text.bindsN fun _ _ _ _ _ _ us hl => match us, hl with | [_], _ => rfl
theorem Tx.b_l_refused (T : Tx K mg) : Binds K T.fd_l_refused ["_law_call"] [] := T.F_l_refused.bindsN fun _ _ _ _ _ _ us hl => match us, hl with | [_], _ => rfl
theorem Tx.b_l_is_shown (T : Tx K mg) : Binds K T.fd_l_is_shown ["_law_disk", "_law_model"] [] := T.F_l_is_shown.bindsN fun _ _ _ _ _ _ us hl => match us, hl with | [_, _], _ => rfl
theorem Tx.b_l_refusals_right (T : Tx K mg) : Binds K T.fd_l_refusals_right ["_law_pot_here", "_law_disk", "_law_model"] [] := T.F_l_refusals_right.bindsN fun _ _ _ _ _ _ us hl => match us, hl with | [_, _, _], _ => rfl
theorem Tx.b_l_changed (T : Tx K mg) : Binds K T.fd_l_changed ["_law_pot_here", "_law_disk", "_law_model"] [] := T.F_l_changed.bindsN fun _ _ _ _ _ _ us hl => match us, hl with | [_, _, _], _ => rfl
theorem Tx.b_l_left (T : Tx K mg) : Binds K T.fd_l_left ["_law_pot_here", "_law_disk", "_law_model"] [] := T.F_l_left.bindsN fun _ _ _ _ _ _ us hl => match us, hl with | [_, _, _], _ => rfl
theorem Tx.b_l_right (T : Tx K mg) : Binds K T.fd_l_right ["_law_pot_here"] [] := T.F_l_right.bindsN fun _ _ _ _ _ _ us hl => match us, hl with | [_], _ => rfl
theorem Tx.b_law (T : Tx K mg) : Binds K T.fd_law ["_law_script"] [] := T.F_law.bindsN fun _ _ _ _ _ _ us hl => match us, hl with | [_], _ => rfl
end
def hfa : List He.Fa := [.free "abs", .free "all", .free "bool", .free "divmod", .free "int", .free "isinstance", .free "len", .free "list", .free "max", .free "min", .free "range", .free "repr", .free "str", .glo "is_whole", .glo "check_string", .glo "_law_pot", .glo "_law_take", .glo "_law_pick", .glo "_law_text", .glo "_law_refused", .glo "_law_is_shown", .glo "_law_refusals_right", .glo "_law_changed", .glo "_law_left", .glo "_law_right", .glo "law", .glo "Disk", .cls "Disk", .mkr "Disk", .noat "Disk" "_content", .noat "Disk" "_sure", .meth "Disk" "append", .meth "Disk" "sync", .meth "Disk" "stopped", .meth "Disk" "without_beginning", .meth "Disk" "clone", .glo "InvalidRecord", .glo "InvalidLength", .glo "LeastlogError"]
def hex (K : PySem.W.Frag) : Bool := propB K "Disk" "content" && (propB K "Disk" "sure" && (eqB K "Disk" ["list"] && (neB K "Disk" ["list"] && (isiB K "Disk" && (kitTB K "list" "Disk" false && (oexF K "InvalidRecord" (He.ma K (He.ga K "InvalidRecord") "__init__") && (He.eqO (PySem.W.findIn K (.ref (He.ga K "InvalidRecord")) "value") (some none) && (oexF K "InvalidLength" (He.ma K (He.ga K "InvalidLength") "__init__") && (He.eqO (PySem.W.findIn K (.ref (He.ga K "InvalidLength")) "value") (some none) && (decide (PySem.W.exmOne K (.ref (He.ga K "InvalidLength")) (.ref (He.ga K "InvalidLength")) = some true) && (decide (PySem.W.exmOne K (.ref (He.ga K "InvalidRecord")) (.ref (He.ga K "InvalidLength")) = some false) && (decide (PySem.W.exmOne K (.ref (He.ga K "InvalidRecord")) (.ref (He.ga K "InvalidRecord")) = some true) && (decide (PySem.W.kitOne K (.ref (He.ga K "InvalidLength")) (.ref (He.ga K "LeastlogError")) = some true) && (decide (PySem.W.kitOne K (.ref (He.ga K "InvalidRecord")) (.ref (He.ga K "LeastlogError")) = some true) && (tabU K ftabs)))))))))))))))
def d_InvalidRecordU_initU : He5.DefA := ⟨fun K => (He.ma K (He.ga K "InvalidRecord") "__init__"), "__init__", "InvalidRecord.__init__", defArgs s_InvalidRecordU_initU, defBody s_InvalidRecordU_initU, defScope s_InvalidRecordU_initU, [], []⟩
def d_InvalidLengthU_initU : He5.DefA := ⟨fun K => (He.ma K (He.ga K "InvalidLength") "__init__"), "__init__", "InvalidLength.__init__", defArgs s_InvalidLengthU_initU, defBody s_InvalidLengthU_initU, defScope s_InvalidLengthU_initU, [], []⟩
def d_is_whole : He5.DefA := ⟨fun K => (He.ga K "is_whole"), "is_whole", "is_whole", defArgs s_is_whole, defBody s_is_whole, defScope s_is_whole, [], []⟩
def d_check_string : He5.DefA := ⟨fun K => (He.ga K "check_string"), "check_string", "check_string", defArgs s_check_string, defBody s_check_string, defScope s_check_string, [], []⟩
def d_DiskU_initU : He5.DefA := ⟨fun K => (He.ma K (He.ga K "Disk") "__init__"), "__init__", "Disk.__init__", defArgs s_DiskU_initU, defBody s_DiskU_initU, defScope s_DiskU_initU, [.str ""], []⟩
def d_Disk_content : He5.DefA := ⟨fun K => (pget K "Disk" "content"), "content", "Disk.content", defArgs s_Disk_content, defBody s_Disk_content, defScope s_Disk_content, [], []⟩
def d_Disk_sure : He5.DefA := ⟨fun K => (pget K "Disk" "sure"), "sure", "Disk.sure", defArgs s_Disk_sure, defBody s_Disk_sure, defScope s_Disk_sure, [], []⟩
def d_Disk_append : He5.DefA := ⟨fun K => (He.ma K (He.ga K "Disk") "append"), "append", "Disk.append", defArgs s_Disk_append, defBody s_Disk_append, defScope s_Disk_append, [], []⟩
def d_Disk_sync : He5.DefA := ⟨fun K => (He.ma K (He.ga K "Disk") "sync"), "sync", "Disk.sync", defArgs s_Disk_sync, defBody s_Disk_sync, defScope s_Disk_sync, [], []⟩
def d_Disk_stopped : He5.DefA := ⟨fun K => (He.ma K (He.ga K "Disk") "stopped"), "stopped", "Disk.stopped", defArgs s_Disk_stopped, defBody s_Disk_stopped, defScope s_Disk_stopped, [], []⟩
def d_Disk_without_beginning : He5.DefA := ⟨fun K => (He.ma K (He.ga K "Disk") "without_beginning"), "without_beginning", "Disk.without_beginning", defArgs s_Disk_without_beginning, defBody s_Disk_without_beginning, defScope s_Disk_without_beginning, [], []⟩
def d_Disk_clone : He5.DefA := ⟨fun K => (He.ma K (He.ga K "Disk") "clone"), "clone", "Disk.clone", defArgs s_Disk_clone, defBody s_Disk_clone, defScope s_Disk_clone, [], []⟩
def d_DiskU_eqU : He5.DefA := ⟨fun K => (He.ma K (He.ga K "Disk") "__eq__"), "__eq__", "Disk.__eq__", defArgs s_DiskU_eqU, defBody s_DiskU_eqU, defScope s_DiskU_eqU, [], []⟩
def d_l_pot : He5.DefA := ⟨fun K => (He.ga K "_law_pot"), "_law_pot", "_law_pot", defArgs s_l_pot, defBody s_l_pot, defScope s_l_pot, [], []⟩
def d_l_take : He5.DefA := ⟨fun K => (He.ga K "_law_take"), "_law_take", "_law_take", defArgs s_l_take, defBody s_l_take, defScope s_l_take, [], []⟩
def d_l_pick : He5.DefA := ⟨fun K => (He.ga K "_law_pick"), "_law_pick", "_law_pick", defArgs s_l_pick, defBody s_l_pick, defScope s_l_pick, [], []⟩
def d_l_text : He5.DefA := ⟨fun K => (He.ga K "_law_text"), "_law_text", "_law_text", defArgs s_l_text, defBody s_l_text, defScope s_l_text, [], []⟩
def d_l_refused : He5.DefA := ⟨fun K => (He.ga K "_law_refused"), "_law_refused", "_law_refused", defArgs s_l_refused, defBody s_l_refused, defScope s_l_refused, [], []⟩
def d_l_is_shown : He5.DefA := ⟨fun K => (He.ga K "_law_is_shown"), "_law_is_shown", "_law_is_shown", defArgs s_l_is_shown, defBody s_l_is_shown, defScope s_l_is_shown, [], []⟩
def d_l_refusals_right : He5.DefA := ⟨fun K => (He.ga K "_law_refusals_right"), "_law_refusals_right", "_law_refusals_right", defArgs s_l_refusals_right, defBody s_l_refusals_right, defScope s_l_refusals_right, [], []⟩
def d_l_changed : He5.DefA := ⟨fun K => (He.ga K "_law_changed"), "_law_changed", "_law_changed", defArgs s_l_changed, defBody s_l_changed, defScope s_l_changed, [], []⟩
def d_l_left : He5.DefA := ⟨fun K => (He.ga K "_law_left"), "_law_left", "_law_left", defArgs s_l_left, defBody s_l_left, defScope s_l_left, [], []⟩
def d_l_right : He5.DefA := ⟨fun K => (He.ga K "_law_right"), "_law_right", "_law_right", defArgs s_l_right, defBody s_l_right, defScope s_l_right, [], []⟩
def d_law : He5.DefA := ⟨fun K => (He.ga K "law"), "law", "law", defArgs s_law, defBody s_law, defScope s_law, [], []⟩
def hfn : List He5.DefA := [d_InvalidRecordU_initU, d_InvalidLengthU_initU, d_is_whole, d_check_string, d_DiskU_initU, d_Disk_content, d_Disk_sure, d_Disk_append, d_Disk_sync, d_Disk_stopped, d_Disk_without_beginning, d_Disk_clone, d_DiskU_eqU, d_l_pot, d_l_take, d_l_pick, d_l_text, d_l_refused, d_l_is_shown, d_l_refusals_right, d_l_changed, d_l_left, d_l_right, d_law]
abbrev R : PySem.W.OpenRow := PySem.W.OpenLaw.row PySem.Challenge.rw_leastlog_k76_disks
def loose : List Str := (["LeastlogError", "InvalidRecord", "InvalidLength", "is_whole", "check_string", "Disk", "_law_pot", "_law_take", "_law_pick", "_law_text", "_law_refused", "_law_is_shown"] : List Str) ++ (["_law_refusals_right", "_law_changed", "_law_left", "_law_right"] : List Str)
abbrev hk : PySem.W.Hook := hookT 6 hfa hfn hex ftabs
def ob (s : PySem.W.SharedT) : He.AlD × Bool := obsT 6 hfa hfn hex ftabs (HandSHeadRun.getT s)
theorem ob_eq (s : PySem.W.SharedT) : ob s = hk.obs s.abs := obsT_eq (HandSHeadRun.getT_eq s)
theorem run (w : World) : RunI R (PySem.W.view R.prog [21]) hk ob 6000 6000 loose w := by
  unfold LL.RunI
  kernel_rfl
theorem tx_of {K : PySem.W.Frag} {h : Heap} {mg : Str → Option Value} (X : K.In h) (G : h.Ns mainGlobals mg) (XX : PySem.W.XL (PySem.W.view R.prog [21]) [] mg h) (c : He5.SaysA hfa hfn K) (x : hex K = true) (tt : TabsOk K h ftabs) : ∃ T : Tx K mg, True := by
  obtain ⟨fd0, F0⟩ := c.def_ 0 (d := d_InvalidRecordU_initU) rfl
  obtain ⟨fd1, F1⟩ := c.def_ 1 (d := d_InvalidLengthU_initU) rfl
  obtain ⟨fd2, F2⟩ := c.def_ 2 (d := d_is_whole) rfl
  obtain ⟨fd3, F3⟩ := c.def_ 3 (d := d_check_string) rfl
  obtain ⟨fd4, F4⟩ := c.def_ 4 (d := d_DiskU_initU) rfl
  obtain ⟨fd5, F5⟩ := c.def_ 5 (d := d_Disk_content) rfl
  obtain ⟨fd6, F6⟩ := c.def_ 6 (d := d_Disk_sure) rfl
  obtain ⟨fd7, F7⟩ := c.def_ 7 (d := d_Disk_append) rfl
  obtain ⟨fd8, F8⟩ := c.def_ 8 (d := d_Disk_sync) rfl
  obtain ⟨fd9, F9⟩ := c.def_ 9 (d := d_Disk_stopped) rfl
  obtain ⟨fd10, F10⟩ := c.def_ 10 (d := d_Disk_without_beginning) rfl
  obtain ⟨fd11, F11⟩ := c.def_ 11 (d := d_Disk_clone) rfl
  obtain ⟨fd12, F12⟩ := c.def_ 12 (d := d_DiskU_eqU) rfl
  obtain ⟨fd13, F13⟩ := c.def_ 13 (d := d_l_pot) rfl
  obtain ⟨fd14, F14⟩ := c.def_ 14 (d := d_l_take) rfl
  obtain ⟨fd15, F15⟩ := c.def_ 15 (d := d_l_pick) rfl
  obtain ⟨fd16, F16⟩ := c.def_ 16 (d := d_l_text) rfl
  obtain ⟨fd17, F17⟩ := c.def_ 17 (d := d_l_refused) rfl
  obtain ⟨fd18, F18⟩ := c.def_ 18 (d := d_l_is_shown) rfl
  obtain ⟨fd19, F19⟩ := c.def_ 19 (d := d_l_refusals_right) rfl
  obtain ⟨fd20, F20⟩ := c.def_ 20 (d := d_l_changed) rfl
  obtain ⟨fd21, F21⟩ := c.def_ 21 (d := d_l_left) rfl
  obtain ⟨fd22, F22⟩ := c.def_ 22 (d := d_l_right) rfl
  obtain ⟨fd23, F23⟩ := c.def_ 23 (d := d_law) rfl
  obtain ⟨x0, x⟩ := He.ba x
  obtain ⟨x1, x⟩ := He.ba x
  obtain ⟨x2, x⟩ := He.ba x
  obtain ⟨x3, x⟩ := He.ba x
  obtain ⟨x4, x⟩ := He.ba x
  obtain ⟨x5, x⟩ := He.ba x
  obtain ⟨x6, x⟩ := He.ba x
  obtain ⟨x7, x⟩ := He.ba x
  obtain ⟨x8, x⟩ := He.ba x
  obtain ⟨x9, x⟩ := He.ba x
  obtain ⟨x10, x⟩ := He.ba x
  obtain ⟨x11, x⟩ := He.ba x
  obtain ⟨x12, x⟩ := He.ba x
  obtain ⟨x13, x⟩ := He.ba x
  obtain ⟨x14, x⟩ := He.ba x
  have x15 := x
  have tb_l_refusals_right : ∃ c P, tabOf K (He.ga K "_law_refusals_right") = some (c, P) := by
    obtain ⟨c, P, a, _⟩ := tt.ex "_law_refusals_right" (by decide)
    exact ⟨c, P, a⟩
  exact ⟨⟨fd0, fd1, fd2, fd3, fd4, fd5, fd6, fd7, fd8, fd9, fd10, fd11, fd12, fd13, fd14, fd15, fd16, fd17, fd18, fd19, fd20, fd21, fd22, fd23, F0, F1, F2, F3, F4, F5, F6, F7, F8, F9, F10, F11, F12, F13, F14, F15, F16, F17, F18, F19, F20, F21, F22, F23, (He.free_ok X G (c.fact 0 (f := .free "abs") rfl)), (He.free_ok X G (c.fact 1 (f := .free "all") rfl)), (He.free_ok X G (c.fact 2 (f := .free "bool") rfl)), (He.free_ok X G (c.fact 3 (f := .free "divmod") rfl)), (He.free_ok X G (c.fact 4 (f := .free "int") rfl)), (He.free_ok X G (c.fact 5 (f := .free "isinstance") rfl)), (He.free_ok X G (c.fact 6 (f := .free "len") rfl)), (He.free_ok X G (c.fact 7 (f := .free "list") rfl)), (He.free_ok X G (c.fact 8 (f := .free "max") rfl)), (He.free_ok X G (c.fact 9 (f := .free "min") rfl)), (He.free_ok X G (c.fact 10 (f := .free "range") rfl)), (He.free_ok X G (c.fact 11 (f := .free "repr") rfl)), (He.free_ok X G (c.fact 12 (f := .free "str") rfl)), (He.glo_ok X G (c.fact 13 (f := .glo "is_whole") rfl)), (He.glo_ok X G (c.fact 14 (f := .glo "check_string") rfl)), (He.glo_ok X G (c.fact 15 (f := .glo "_law_pot") rfl)), (He.glo_ok X G (c.fact 16 (f := .glo "_law_take") rfl)), (He.glo_ok X G (c.fact 17 (f := .glo "_law_pick") rfl)), (He.glo_ok X G (c.fact 18 (f := .glo "_law_text") rfl)), (He.glo_ok X G (c.fact 19 (f := .glo "_law_refused") rfl)), (He.glo_ok X G (c.fact 20 (f := .glo "_law_is_shown") rfl)), (He.glo_ok X G (c.fact 21 (f := .glo "_law_refusals_right") rfl)), (He.glo_ok X G (c.fact 22 (f := .glo "_law_changed") rfl)), (He.glo_ok X G (c.fact 23 (f := .glo "_law_left") rfl)), (He.glo_ok X G (c.fact 24 (f := .glo "_law_right") rfl)), (He.glo_ok X G (c.fact 25 (f := .glo "law") rfl)), (He.glo_ok X G (c.fact 26 (f := .glo "Disk") rfl)), (He.cls_ok (c.fact 27 (f := .cls "Disk") rfl)), (He.mkr_ok (c.fact 28 (f := .mkr "Disk") rfl)), (He.noat_ok (c.fact 29 (f := .noat "Disk" "_content") rfl)), (He.noat_ok (c.fact 30 (f := .noat "Disk" "_sure") rfl)), (He.meth_ok (c.fact 31 (f := .meth "Disk" "append") rfl)), (He.meth_ok (c.fact 32 (f := .meth "Disk" "sync") rfl)), (He.meth_ok (c.fact 33 (f := .meth "Disk" "stopped") rfl)), (He.meth_ok (c.fact 34 (f := .meth "Disk" "without_beginning") rfl)), (He.meth_ok (c.fact 35 (f := .meth "Disk" "clone") rfl)), (He.glo_ok X G (c.fact 36 (f := .glo "InvalidRecord") rfl)), (He.glo_ok X G (c.fact 37 (f := .glo "InvalidLength") rfl)), (He.glo_ok X G (c.fact 38 (f := .glo "LeastlogError") rfl)), (propB_ok x0), (propB_ok x1), (eqB_ok x2), (neB_ok x3), (isiB_ok x4), (kitTB_ok x5), (oexF_ok x6), (He.eqO_ok x7), (oexF_ok x8), (He.eqO_ok x9), (of_decide_eq_true x10), (of_decide_eq_true x11), (of_decide_eq_true x12), (of_decide_eq_true x13), (of_decide_eq_true x14), (id x15), tb_l_refusals_right⟩, trivial⟩
/-! ### disks -/
def dskF (z : Str) (n : Int) : List (Str × V) := putF "_sure" (.int n) (putF "_content" (.str z) [])
theorem dskF_c (z : Str) (n : Int) : (dskF z n).lookup ("_content" : Str) = some (.str z) := by
  unfold dskF
  rw [lookup_putF, if_neg (by decide +kernel), lookup_putF, if_pos rfl]
theorem dskF_s (z : Str) (n : Int) : (dskF z n).lookup ("_sure" : Str) = some (.int n) := by
  unfold dskF
  rw [lookup_putF, if_pos rfl]
theorem dskF_no (z : Str) (n : Int) {m : Str} (h1 : ¬ m = "_sure") (h2 : ¬ m = "_content") : (dskF z n).lookup m = none := by
  unfold dskF
  rw [lookup_putF, if_neg h1, lookup_putF, if_neg h2]
  rfl
theorem dskF_putC (z y : Str) (n : Int) : putF "_content" (.str y) (dskF z n) = dskF y n := by
  unfold dskF putF
  rfl
theorem dskF_putS (z : Str) (n m : Int) : putF "_sure" (.int m) (dskF z n) = dskF z m := by
  unfold dskF putF
  rfl

local macro_rules
  | `(tactic| walk_at "rdv") => `(tactic| first
    | with_reducible refine r_v0 ?_
    | with_reducible refine r_v1 ?_
    | with_reducible refine r_v2 ?_
    | with_reducible refine r_v3 ?_
    | with_reducible refine r_v4 ?_
    | with_reducible refine r_v5 ?_
    | with_reducible refine r_v6 ?_
    | with_reducible refine r_v7 ?_
    | with_reducible refine r_v8 ?_
    | with_reducible refine r_v9 ?_
    | with_reducible refine r_v10 ?_
    | with_reducible refine r_v11 ?_
    | with_reducible refine r_v12 ?_
    | with_reducible refine r_v13 ?_
    | with_reducible refine r_v14 ?_
    | with_reducible refine r_v15 ?_
    | with_reducible refine r_v16 ?_
    | with_reducible refine r_v17 ?_
    | with_reducible refine r_v18 ?_
    | with_reducible refine r_v19 ?_
    | with_reducible refine r_v20 ?_
    | with_reducible refine r_v21 ?_
    | with_reducible refine r_v22 ?_
    | with_reducible refine r_v23 ?_
    | with_reducible refine r_v24 ?_
    | with_reducible refine r_v25 ?_)
local macro_rules
  | `(tactic| walk_at "rds") => `(tactic| first
    | with_reducible refine r_s0 ?_
    | with_reducible refine r_s1 ?_
    | with_reducible refine r_s2 ?_
    | with_reducible refine r_s3 ?_
    | with_reducible refine r_s4 ?_
    | with_reducible refine r_s5 ?_
    | with_reducible refine r_s6 ?_
    | with_reducible refine r_s7 ?_
    | with_reducible refine r_s8 ?_
    | with_reducible refine r_s9 ?_
    | with_reducible refine r_s10 ?_
    | with_reducible refine r_s11 ?_
    | with_reducible refine r_s12 ?_
    | with_reducible refine r_s13 ?_
    | with_reducible refine r_s14 ?_
    | with_reducible refine r_s15 ?_
    | with_reducible refine r_s16 ?_
    | with_reducible refine r_s17 ?_
    | with_reducible refine r_s18 ?_
    | with_reducible refine r_s19 ?_
    | with_reducible refine r_s20 ?_
    | with_reducible refine r_s21 ?_
    | with_reducible refine r_s22 ?_
    | with_reducible refine r_s23 ?_
    | with_reducible refine r_s24 ?_
    | with_reducible refine r_s25 ?_)
local macro_rules
  | `(tactic| walk_at "rd") => `(tactic| first
    | with_reducible refine r_seq ?_
    | with_reducible refine r_asg ?_
    | with_reducible refine r_ret ?_
    | with_reducible refine r_drop ?_
    | with_reducible refine r_next ?_
    | with_reducible refine r_ifS ?_
    | with_reducible refine r_par ?_
    | ((with_reducible refine r_parAt ?_); dsimp only [List.set])
    | walk_at "rdv"
    | with_reducible refine r_c ?_
    | with_reducible refine r_op ?_
    | with_reducible refine r_un ?_
    | with_reducible refine r_test ?_
    | with_reducible refine r_tB ?_
    | with_reducible refine r_and ?_
    | with_reducible refine r_or ?_
    | with_reducible refine r_not ?_
    | with_reducible refine r_andV ?_
    | with_reducible refine r_orV ?_
    | with_reducible refine r_notV ?_
    | with_reducible refine r_if ?_
    | with_reducible refine iteT ?_
    | with_reducible refine r_nT ?_
    | with_reducible refine r_nF ?_
    | with_reducible refine iteF ?_
    | with_reducible refine r_CB ?_
    | with_reducible refine r_nil ?_
    | with_reducible refine r_cons ?_
    | with_reducible refine r_tup ?_
    | with_reducible refine r_lst ?_
    | (with_reducible refine r_I0 ?_)
    | (with_reducible refine r_U ?_)
    | with_reducible refine r_eqI ?_
    | with_reducible refine r_neI ?_
    | with_reducible refine r_eqS ?_
    | with_reducible refine r_neS ?_
    | with_reducible refine r_gcd ?_
    | with_reducible refine r_abs ?_
    | with_reducible refine r_max ?_
    | with_reducible refine r_min ?_
    | with_reducible refine r_int ?_
    | with_reducible refine r_intB ?_
    | with_reducible refine r_reprB ?_
    | with_reducible refine q_int ?_
    | with_reducible refine q_intB ?_
    | with_reducible refine q_1 ?_
    | with_reducible refine r_for ?_
    | with_reducible refine r_rng1 ?_
    | with_reducible refine r_itl ?_
    | with_reducible refine r_zip ?_
    | with_reducible refine r_lc ?_
    | with_reducible refine q_2 ?_
    | refine q_len (.inl (.inl (by assumption))) ?_
    | refine r_fld ?_
    | with_reducible refine r_prop ?_
    | with_reducible refine r_call ?_
    | with_reducible refine r_meth ?_
    | with_reducible refine r_make ?_
    | walk_at "rds"
    | with_reducible refine r_gnil ?_
    | with_reducible refine r_gcons ?_
    | with_reducible refine r_gsub ?_
    | with_reducible refine r_fmt ?_
    | with_reducible refine r_js0 ?_
    | with_reducible refine r_js ?_
    | with_reducible refine r_fieldS ?_
    | with_reducible refine r_blV ?_
    | ((with_reducible refine r_I ?sd ?_); (case sd => walk_at "sd"))
    | dsimp only [L2.wipe, List.set])
local macro_rules
  | `(tactic| walk_at "sd") => `(tactic| first
    | assumption
    | (show (0 : Int) < _; decide)
    | (show (0 : Int) < _; omega)
    | (refine ⟨?_, ?_⟩ <;> first | decide | omega))
local macro_rules
  | `(tactic| walk_at "st") => `(tactic| simp only [L2.cxOf, L2.start, List.map_cons, List.map_nil, List.length_cons, List.length_nil, Nat.reduceAdd, Nat.reduceSub, List.replicate_succ, List.replicate_zero, List.cons_append, List.nil_append, Nat.sub_self, Nat.add_one_sub_one, List.replicate])

/-! ### kinds, refusals -/
def kindsW : List String := ["NoneType", "bool", "int", "str", "list", "tuple", "dict"]
def sp_isw (K : PySem.W.Frag) : Sp := fun vs H Q _ => ∃ v T, vs = [v] ∧ TyX K H v (.type T) ∧ T ∈ kindsW ∧ Q (.bl (decide (T = "int"))) H
/-- a string goes through, another kind is refused -/
def sp_chk (K : PySem.W.Frag) : Sp := fun vs H Q E => ∃ v, vs = [v] ∧ ((∃ z, v = .str z ∧ Q .non H) ∨ (∃ T, TyX K H v (.type T) ∧ T ∈ kindsW ∧ T ≠ "str" ∧ ExV (He.ga K "InvalidRecord") "value" v H E))
theorem tyx_str {K : PySem.W.Frag} {H : Hp} {z : Str} : TyX K H (.str z) (.type "str") := .base (.str z)
theorem use_isw {K : PySem.W.Frag} {H : Hp} {Q : VK} {E : XK} {v : V} {T : String} (h : TyX K H v (.type T)) (hT : T ∈ kindsW) (q : Q (.bl (decide (T = "int"))) H) : sp_isw K ([v] ++ []) H Q E := ⟨v, T, rfl, h, hT, q⟩
theorem use_iswI {K : PySem.W.Frag} {H : Hp} {Q : VK} {E : XK} {i : Int} (q : Q (.bl true) H) : sp_isw K ([.int i] ++ []) H Q E := ⟨_, "int", rfl, .base (.int i), by decide, q⟩
theorem use_chkS {K : PySem.W.Frag} {H : Hp} {Q : VK} {E : XK} {z : Str} (q : Q .non H) : sp_chk K ([.str z] ++ []) H Q E := ⟨_, rfl, .inl ⟨z, rfl, q⟩⟩

section
variable {P : Program} {w : World} {K : PySem.W.Frag} {mg : Str → Option Value} {base : Heap}
theorem sc_InvalidRecordU_initU : FnScope ["self", "value"] ["self", "value"] (defScope s_InvalidRecordU_initU) := ⟨rfl, rfl, rfl, by decide +kernel, rfl, by decide +kernel, by decide +kernel⟩
theorem ok_InvalidRecordU_initU {gg : Bool} (T : Tx K mg) : FnG P w K mg base CX0 gg 1 (He.ma K (He.ga K "InvalidRecord") "__init__") T.fd_InvalidRecordU_initU ["self", "value"] (sp_exi K "value") := by
  refine funG T.F_InvalidRecordU_initU sc_InvalidRecordU_initU (fun vs H Q E h => ?_) (fun cdv A outer s H vs Q E hr hg h => ?_)
  · obtain ⟨a, C, v, e, _⟩ := h; rw [e]; rfl
  · obtain ⟨a, C, v, rfl, o, no, ha, q⟩ := h
    refine ⟨_, pss_one (ps_ost (pv 0) (pv 1)), ?_⟩
    walk_at "st"
    refine ⟨_, rfl, _, rfl, a, C, rfl, o, no, .inl ⟨ha, fun dx n1 n2 => q dx n1 n2⟩⟩
theorem sc_InvalidLengthU_initU : FnScope ["self", "value"] ["self", "value"] (defScope s_InvalidLengthU_initU) := ⟨rfl, rfl, rfl, by decide +kernel, rfl, by decide +kernel, by decide +kernel⟩
theorem ok_InvalidLengthU_initU {gg : Bool} (T : Tx K mg) : FnG P w K mg base CX0 gg 1 (He.ma K (He.ga K "InvalidLength") "__init__") T.fd_InvalidLengthU_initU ["self", "value"] (sp_exi K "value") := by
  refine funG T.F_InvalidLengthU_initU sc_InvalidLengthU_initU (fun vs H Q E h => ?_) (fun cdv A outer s H vs Q E hr hg h => ?_)
  · obtain ⟨a, C, v, e, _⟩ := h; rw [e]; rfl
  · obtain ⟨a, C, v, rfl, o, no, ha, q⟩ := h
    refine ⟨_, pss_one (ps_ost (pv 0) (pv 1)), ?_⟩
    walk_at "st"
    refine ⟨_, rfl, _, rfl, a, C, rfl, o, no, .inl ⟨ha, fun dx n1 n2 => q dx n1 n2⟩⟩
theorem sc_is_whole : FnScope ["value"] ["value"] (defScope s_is_whole) := ⟨rfl, rfl, rfl, by decide +kernel, rfl, by decide +kernel, by decide +kernel⟩
theorem ok_is_whole {gg : Bool} (T : Tx K mg) : FnG P w K mg base CX0 gg 1 (He.ga K "is_whole") T.fd_is_whole ["value"] (sp_isw K) := by
  refine funG T.F_is_whole sc_is_whole (fun vs H Q E h => ?_) (fun cdv A outer s H vs Q E hr hg h => ?_)
  · obtain ⟨v, ty, e, _⟩ := h; rw [e]; rfl
  · obtain ⟨v, tn, rfl, ty, hT, q⟩ := h
    refine ⟨_, (pss_one (ps_ret (pe_and (pe_callB call_isi (by rfl) T.m_isinstance (by decide +kernel) (pa_cons (pv 0) (pa_cons (pe_bltn (v := .ty "int") (u := .type "int") (by rfl) T.m_int (by decide +kernel) rfl) pa_nil))) (pe_one (pe_not (pe_callB call_isi (by rfl) T.m_isinstance (by decide +kernel) (pa_cons (pv 0) (pa_cons (pe_bltn (v := .ty "bool") (u := .type "bool") (by rfl) T.m_bool (by decide +kernel) rfl) pa_nil)))))))), ?_⟩
    walk_at "st"
    repeat walk_at "rd"
    simp only [kindsW, List.mem_cons, List.not_mem_nil, or_false] at hT
    rcases hT with rfl | rfl | rfl | rfl | rfl | rfl | rfl
    · refine r_isi (b := false) ty (.ty _) (kit_ty (by decide +kernel)) ?_
      repeat walk_at "rd"
      exact q
    · refine r_isi (b := true) ty (.ty _) (kit_ty (by decide +kernel)) ?_
      repeat walk_at "rd"
      refine r_isi (b := true) ty (.ty _) (kit_ty (by decide +kernel)) ?_
      repeat walk_at "rd"
      exact q
    · refine r_isi (b := true) ty (.ty _) (kit_ty (by decide +kernel)) ?_
      repeat walk_at "rd"
      refine r_isi (b := false) ty (.ty _) (kit_ty (by decide +kernel)) ?_
      repeat walk_at "rd"
      exact q
    all_goals
      refine r_isi (b := false) ty (.ty _) (kit_ty (by decide +kernel)) ?_
      repeat walk_at "rd"
      exact q
theorem sc_check_string : FnScope ["value"] ["value"] (defScope s_check_string) := ⟨rfl, rfl, rfl, by decide +kernel, rfl, by decide +kernel, by decide +kernel⟩
theorem ok_check_string {gg : Bool} (T : Tx K mg) : FnG P w K mg base (L2.CX P w) gg 3 (He.ga K "check_string") T.fd_check_string ["value"] (sp_chk K) := by
  refine funX T.F_check_string sc_check_string (fun vs H Q E h => ?_) (fun cdv A outer s H vs Q E _hc hr hg h => ?_)
  · obtain ⟨v, e, _⟩ := h; rw [e]; rfl
  · obtain ⟨v, rfl, h⟩ := h
    refine ⟨_, (pss_one (ps_if (pt_not (pt_val (pe_callB call_isi (by rfl) T.m_isinstance (by decide +kernel) (pa_cons (pv 0) (pa_cons (pe_bltn (v := .ty "str") (u := .type "str") (by rfl) T.m_str (by decide +kernel) rfl) pa_nil))))) (pss_one (ps_raise rfl (takes_of rfl rfl rfl rfl) (pmk_oex T.x_InvalidRecord.o T.x_InvalidRecord.i T.x_InvalidRecord.t (g_ok (ok_InvalidRecordU_initU T)) (hr.mono (by decide)) T.b_InvalidRecordU_initU .nil pass0 (by rfl) T.g_InvalidRecord (pa_cons (pv 0) pa_nil)))) pss_nil)), ?_⟩
    walk_at "st"
    repeat walk_at "rd"
    rcases h with ⟨z, rfl, q⟩ | ⟨tn, ty, hT, nT, q⟩
    · refine r_isi (b := true) tyx_str (.ty _) (kit_ty (by decide +kernel)) ?_
      repeat walk_at "rd"
      exact q
    · simp only [kindsW, List.mem_cons, List.not_mem_nil, or_false] at hT
      rcases hT with rfl | rfl | rfl | rfl | rfl | rfl | rfl
      all_goals first | exact absurd rfl nT | skip
      all_goals
        refine r_isi (b := false) ty (.ty _) (kit_ty (by decide +kernel)) ?_
        repeat walk_at "rd"
        refine r_mko ?_
        repeat walk_at "rd"
        exact use_raise T.x_InvalidRecord.o T.nf_InvalidRecord rfl q

end
local macro_rules
  | `(tactic| walk_at "rd") => `(tactic| first
    | with_reducible refine r_mko ?_
    | with_reducible refine r_sl ?_
    | with_reducible refine r_noPart ?_
    | with_reducible refine r_part ?_
    | with_reducible refine r_partI ?_
    | with_reducible refine r_chain ?_
    | with_reducible refine r_xf ?_)

theorem lnL : sizeLine = 16777216 := by decide +kernel
theorem cutS_all (z : Str) : cutS z (some 0) none = z := by
  cases z with
  | mk c =>
    unfold cutS
    have e1 : HT.sIx (Str.mk c).length 0 (some 0) = 0 := by
      show (if (0 : Int) < 0 then ((0 : Int) + ((Str.mk c).length : Int)).toNat else min (0 : Int).toNat (Str.mk c).length) = 0
      rw [if_neg (by decide)]
      exact Nat.zero_min _
    have e2 : HT.sIx (Str.mk c).length (Str.mk c).length none = (Str.mk c).length := rfl
    have e3 : (Str.mk c).length = c.toList.length := by
      show c.size = _
      simp
    rw [e1, e2, e3, List.drop_zero, Nat.sub_zero, List.take_length]
def DiskAt (K : PySem.W.Frag) (H : Hp) (a : Addr) (z : Str) (n : Int) : Prop := ∃ dx, H a = some (.ins (He.ga K "Disk") dx (dskF z n))
theorem DiskAt.same {K : PySem.W.Frag} {H H' : Hp} {a : Addr} {z : Str} {n : Int} (h : DiskAt K H a z n) (s : Same H H') : DiskAt K H' a z n := let ⟨dx, e⟩ := h; ⟨dx, s a _ e⟩
theorem DiskAt.ins {K : PySem.W.Frag} {H : Hp} {a : Addr} {z : Str} {n : Int} (h : DiskAt K H a z n) : InsAt (He.ga K "Disk") H a := let ⟨dx, e⟩ := h; ⟨dx, _, e⟩
theorem DiskAt.fr {K : PySem.W.Frag} {Tb : List (Addr × Str)} {S : List Addr} {H H' : Hp} {a : Addr} {z : Str} {n : Int} (h : DiskAt K H a z n) (f : Fr Tb S H H') (ha : a ∉ S) : DiskAt K H' a z n := let ⟨dx, e⟩ := h; ⟨dx, f.at_ e trivial ha⟩
theorem DiskAt.off {K : PySem.W.Frag} {H H' : Hp} {a b : Addr} {z : Str} {n : Int} (h : DiskAt K H a z n) (ne : ∀ c, c ≠ b → H' c = H c) (hb : a ≠ b) : DiskAt K H' a z n := let ⟨dx, e⟩ := h; ⟨dx, by rw [ne a hb]; exact e⟩
theorem DiskAt.ne {K : PySem.W.Frag} {H : Hp} {a b : Addr} {z : Str} {n : Int} (h : DiskAt K H a z n) (hb : H b = none) : a ≠ b := fun e => by
  obtain ⟨dx, z⟩ := h
  rw [e, hb] at z
  cases z
/-! promises -/
def BadStr (K : PySem.W.Frag) (v : V) (H : Hp) (E : XK) : Prop := ∃ tn, TyX K H v (.type tn) ∧ tn ∈ kindsW ∧ tn ≠ "str" ∧ ExV (He.ga K "InvalidRecord") "value" v H E
def sp_dinit (K : PySem.W.Frag) : Sp := fun vs H Q E => ∃ p dx v, vs = [.ref p, v] ∧ H p = some (.ins (He.ga K "Disk") dx []) ∧
  ((∃ z, v = .str z ∧ z.length ≤ 100000 ∧ ∀ H', (∀ b, b ≠ p → H' b = H b) → H' p = some (.ins (He.ga K "Disk") dx (dskF z z.length)) → Q .non H') ∨ BadStr K v H E)
def sp_dget (K : PySem.W.Frag) (f : Str → Int → V) : Sp := fun vs H Q _ => ∃ a z n, vs = [.ref a] ∧ DiskAt K H a z n ∧ Q (f z n) H
def sp_dapp (K : PySem.W.Frag) : Sp := fun vs H Q E => ∃ a z n v, vs = [.ref a, v] ∧ DiskAt K H a z n ∧
  ((∃ y, v = .str y ∧ z.length + y.length ≤ 100000 ∧ ∀ H', (∀ b, b ≠ a → H' b = H b) → DiskAt K H' a (z ++ y) n → Q (.int (z ++ y).length) H') ∨ BadStr K v H E)
def sp_dsync (K : PySem.W.Frag) : Sp := fun vs H Q _ => ∃ a z n, vs = [.ref a] ∧ DiskAt K H a z n ∧ z.length ≤ 100000 ∧ ∀ H', (∀ b, b ≠ a → H' b = H b) → DiskAt K H' a z z.length → Q (.int z.length) H'
def sp_dstop (K : PySem.W.Frag) : Sp := fun vs H Q E => ∃ a z n v, vs = [.ref a, v] ∧ DiskAt K H a z n ∧ z.length ≤ 100000 ∧
  ((∃ m : Int, v = .int m ∧ n ≤ m ∧ m ≤ z.length ∧ (cutS z none (some m)).length ≤ 100000 ∧ ∀ p H', H p = none → Same H H' → DiskAt K H' p (cutS z none (some m)) (cutS z none (some m)).length → Q (.ref p) H') ∨
   (∃ tn, TyX K H v (.type tn) ∧ tn ∈ kindsW ∧ (tn = "int" → ∃ m : Int, v = .int m ∧ ¬ (n ≤ m ∧ m ≤ z.length)) ∧ ExV (He.ga K "InvalidLength") "value" v H E))
def sp_dwob (K : PySem.W.Frag) : Sp := fun vs H Q _ => ∃ a z n, vs = [.ref a, .int 0] ∧ DiskAt K H a z n ∧ z.length ≤ 100000 ∧ 0 ≤ n ∧ ∀ p H', H p = none → Same H H' → DiskAt K H' p z n → Q (.ref p) H'
def sp_dclone (K : PySem.W.Frag) : Sp := fun vs H Q _ => ∃ a z n, vs = [.ref a] ∧ DiskAt K H a z n ∧ z.length ≤ 100000 ∧ 0 ≤ n ∧ ∀ p H', H p = none → Same H H' → DiskAt K H' p z n → Q (.ref p) H'
def sp_deq (K : PySem.W.Frag) : Sp := fun vs H Q _ => (∃ a b z n z2 n2, vs = [.ref a, .ref b] ∧ DiskAt K H a z n ∧ DiskAt K H b z2 n2 ∧ Q (.bl (decide (z = z2 ∧ n = n2))) H) ∨ (∃ a z n v, vs = [.ref a, v] ∧ DiskAt K H a z n ∧ TyX K H v (.type "list") ∧ Q (.bl false) H)
section
variable {K : PySem.W.Frag} {H : Hp} {Q : VK} {E : XK} {a b : Addr} {z z2 y : Str} {n n2 m : Int} {v : V} {R : Addr → Hp → Prop}
theorem r_flC {A : V → Prop} (h : DiskAt K H a z n) (c : Cls K (He.ga K "Disk")) (na : NoAttr K (He.ga K "Disk") "_content") (q : A (.str z)) :
    ∃ a' C dx fs v, V.ref a = .ref a' ∧ H a' = some (.ins C dx fs) ∧ Cls K C ∧ NoAttr K C "_content" ∧ fs.lookup ("_content" : Str) = some v ∧ A v := let ⟨dx, e⟩ := h; ⟨a, _, dx, _, _, rfl, e, c, na, dskF_c z n, q⟩
theorem r_flU {A : V → Prop} (h : DiskAt K H a z n) (c : Cls K (He.ga K "Disk")) (na : NoAttr K (He.ga K "Disk") "_sure") (q : A (.int n)) :
    ∃ a' C dx fs v, V.ref a = .ref a' ∧ H a' = some (.ins C dx fs) ∧ Cls K C ∧ NoAttr K C "_sure" ∧ fs.lookup ("_sure" : Str) = some v ∧ A v := let ⟨dx, e⟩ := h; ⟨a, _, dx, _, _, rfl, e, c, na, dskF_s z n, q⟩
theorem r_prD {f : Str → Int → V} (h : DiskAt K H a z n) (q : Q (f z n) H) : ∃ a' dx fs, V.ref a = .ref a' ∧ H a' = some (.ins (He.ga K "Disk") dx fs) ∧ sp_dget K f [.ref a'] H Q E := by
  obtain ⟨dx, e⟩ := id h
  exact ⟨a, dx, _, rfl, e, a, z, n, rfl, h, q⟩
theorem use_mkD {vs : List V} (e : vs = [.str z]) (hz : z.length ≤ 100000) (q : ∀ a H', Same H H' → H a = none → DiskAt K H' a z z.length → R a H') :
    ∀ x dx, H x = none → H dx = none → dx ≠ x → sp_dinit K (.ref x :: vs) (upd (upd H dx (.own x)) x (.ins (He.ga K "Disk") dx [])) (fun v H2 => v = .non ∧ R x H2) E := by
  subst e
  intro x dx hx hdx hne
  refine ⟨x, dx, _, rfl, upd_same, .inl ⟨z, rfl, hz, fun H' keep at_ => ⟨rfl, q x H' (fun c o ec => ?_) hx ⟨dx, at_⟩⟩⟩⟩
  have n1 : c ≠ x := ne_of_none ec hx
  have n2 : c ≠ dx := ne_of_none ec hdx
  rw [keep c n1, upd_ne n1, upd_ne n2]; exact ec
theorem use_mkDX {vs : List V} (e : vs = [v]) (h : BadStr K v H E) :
    ∀ x dx, H x = none → H dx = none → dx ≠ x → sp_dinit K (.ref x :: vs) (upd (upd H dx (.own x)) x (.ins (He.ga K "Disk") dx [])) (fun v H2 => v = .non ∧ R x H2) E := by
  subst e
  intro x dx hx hdx hne
  have s : Same H (upd (upd H dx (.own x)) x (.ins (He.ga K "Disk") dx [])) := fun c o ec => by
    rw [upd_ne (ne_of_none ec hx), upd_ne (ne_of_none ec hdx)]; exact ec
  obtain ⟨tn, ty, hT, nT, q⟩ := h
  exact ⟨x, dx, _, rfl, upd_same, .inr ⟨tn, TyX.same ty s, hT, nT, q.same s⟩⟩
theorem dsk_meth {m : Str} {t : TA} {σ : L2.St} {sp : Sp} {dvs : List V} (h : DiskAt K H a z n) (h1 : ¬ m = "_sure") (h2 : ¬ m = "_content") (q : t σ H fun vs H2 => sp (.ref a :: (vs ++ dvs)) H2 Q E) :
    ∃ a' dx fs, V.ref a = .ref a' ∧ H a' = some (.ins (He.ga K "Disk") dx fs) ∧ fs.lookup m = none ∧ t σ H fun vs H2 => sp (.ref a :: (vs ++ dvs)) H2 Q E := by
  obtain ⟨dx, e⟩ := id h
  exact r_methAt e (dskF_no z n h1 h2) q
theorem dsk_store {f : Str} {y : V} {n' : L2.St → Hp → Prop} {σ : L2.St} {G : List (Str × V)} (h : DiskAt K H a z n) (c : Cls K (He.ga K "Disk")) (na : NoAttr K (He.ga K "Disk") f) (e : putF f y (dskF z n) = G)
    (q : ∀ H' dx, H' a = some (.ins (He.ga K "Disk") dx G) → (∀ b, b ≠ a → H' b = H b) → n' σ H') :
    ∃ a' C dx fs, V.ref a = .ref a' ∧ H a' = some (.ins C dx fs) ∧ Cls K C ∧ NoAttr K C f ∧ fs.length < 1000 ∧ n' σ (upd H a' (.ins C dx (putF f y fs))) := by
  obtain ⟨dx, e1⟩ := h
  refine ⟨a, _, dx, _, rfl, e1, c, na, ?_, ?_⟩
  · have : (dskF z n).length = 2 := by unfold dskF putF; rfl
    omega
  · rw [e]; exact q _ dx upd_same fun b hb => upd_ne hb
end

local macro_rules
  | `(tactic| walk_at "rd") => `(tactic| first
    | refine r_prD (by assumption) ?_
    | refine r_flC (by assumption) (by walk_at "cD") (by walk_at "nC") ?_
    | refine r_flU (by assumption) (by walk_at "cD") (by walk_at "nS") ?_
    | refine q_lenS (by assumption) ?_
    | refine r_cutS (by assumption) ?_)
local macro_rules
  | `(tactic| walk_at "cD") => `(tactic| exact Tx.c_Disk (by assumption))
local macro_rules
  | `(tactic| walk_at "nC") => `(tactic| exact Tx.n_Disk_content (by assumption))
local macro_rules
  | `(tactic| walk_at "nS") => `(tactic| exact Tx.n_Disk_sure (by assumption))

section
variable {P : Program} {w : World} {K : PySem.W.Frag} {mg : Str → Option Value} {base : Heap}
theorem sc_DiskU_initU : FnScope ["self", "text"] ["self", "text"] (defScope s_DiskU_initU) := ⟨rfl, rfl, rfl, by decide +kernel, rfl, by decide +kernel, by decide +kernel⟩
theorem ok_DiskU_initU {gg : Bool} (T : Tx K mg) : FnG P w K mg base (L2.CX P w) gg 4 (He.ma K (He.ga K "Disk") "__init__") T.fd_DiskU_initU ["self", "text"] (sp_dinit K) := by
  refine funX T.F_DiskU_initU sc_DiskU_initU (fun vs H Q E h => ?_) (fun cdv A outer s H vs Q E _hc hr hg h => ?_)
  · obtain ⟨p, dx, v, e, _⟩ := h; rw [e]; rfl
  · obtain ⟨p, dx, v, rfl, hp, h⟩ := h
    refine ⟨_, (pss_cons (ps_expr (pg_call (ok_check_string T) (hr.mono (by decide)) hg (by rfl) T.g_check_string T.F_check_string.kp T.b_check_string .nil (passX (takes_of rfl rfl rfl rfl) (fun _ _ _ _ h => h)) (pa_cons (pv 1) pa_nil)))
    (pss_cons (ps_fld (pv 0) (pv 1) rfl)
    (pss_one (ps_fld (pv 0) (pe_callB call_len (by rfl) T.m_len (by decide +kernel) (pa_cons (pv 1) pa_nil)) rfl)))), ?_⟩
    walk_at "st"
    repeat walk_at "rd"
    rcases h with ⟨z, rfl, hz, q⟩ | ⟨tn, ty, hT, nT, q⟩
    · refine use_chkS ?_
      repeat walk_at "rd"
      refine r_fieldAt hp T.c_Disk T.n_Disk_content (by show 0 < 1000; decide) ?_
      repeat walk_at "rd"
      refine ⟨_, _, _, _, rfl, upd_same, T.c_Disk, T.n_Disk_sure, Nat.lt_of_le_of_lt (length_putF _ _ []) (by decide), ?_⟩
      refine q _ (fun b hb => ?_) upd_same
      rw [upd_ne hb, upd_ne hb]
    · exact ⟨v, rfl, .inr ⟨tn, ty, hT, nT, q⟩⟩
theorem sc_Disk_content : FnScope ["self"] ["self"] (defScope s_Disk_content) := ⟨rfl, rfl, rfl, by decide +kernel, rfl, by decide +kernel, by decide +kernel⟩
theorem ok_Disk_content {gg : Bool} (T : Tx K mg) : FnG P w K mg base CX0 gg 1 (pget K "Disk" "content") T.fd_Disk_content ["self"] (sp_dget K fun z _ => .str z) := by
  refine funG T.F_Disk_content sc_Disk_content (fun vs H Q E h => ?_) (fun cdv A outer s H vs Q E hr hg h => ?_)
  · obtain ⟨a, z, n, e, _⟩ := h; rw [e]; rfl
  · obtain ⟨a, z, n, rfl, ha, q⟩ := h
    refine ⟨_, (pss_one (ps_ret (pe_fld (pv 0) rfl))), ?_⟩
    walk_at "st"
    repeat walk_at "rd"
    exact q
theorem sc_Disk_sure : FnScope ["self"] ["self"] (defScope s_Disk_sure) := ⟨rfl, rfl, rfl, by decide +kernel, rfl, by decide +kernel, by decide +kernel⟩
theorem ok_Disk_sure {gg : Bool} (T : Tx K mg) : FnG P w K mg base CX0 gg 1 (pget K "Disk" "sure") T.fd_Disk_sure ["self"] (sp_dget K fun _ n => .int n) := by
  refine funG T.F_Disk_sure sc_Disk_sure (fun vs H Q E h => ?_) (fun cdv A outer s H vs Q E hr hg h => ?_)
  · obtain ⟨a, z, n, e, _⟩ := h; rw [e]; rfl
  · obtain ⟨a, z, n, rfl, ha, q⟩ := h
    refine ⟨_, (pss_one (ps_ret (pe_fld (pv 0) rfl))), ?_⟩
    walk_at "st"
    repeat walk_at "rd"
    exact q
theorem sc_Disk_append : FnScope ["self", "text"] ["self", "text"] (defScope s_Disk_append) := ⟨rfl, rfl, rfl, by decide +kernel, rfl, by decide +kernel, by decide +kernel⟩
theorem ok_Disk_append {gg : Bool} (T : Tx K mg) : FnG P w K mg base (L2.CX P w) gg 4 (He.ma K (He.ga K "Disk") "append") T.fd_Disk_append ["self", "text"] (sp_dapp K) := by
  refine funX T.F_Disk_append sc_Disk_append (fun vs H Q E h => ?_) (fun cdv A outer s H vs Q E _hc hr hg h => ?_)
  · obtain ⟨a, z, n, v, e, _⟩ := h; rw [e]; rfl
  · obtain ⟨a, z, n, v, rfl, ha, h⟩ := h
    refine ⟨_, (pss_cons (ps_expr (pg_call (ok_check_string T) (hr.mono (by decide)) hg (by rfl) T.g_check_string T.F_check_string.kp T.b_check_string .nil (passX (takes_of rfl rfl rfl rfl) (fun _ _ _ _ h => h)) (pa_cons (pv 1) pa_nil)))
    (pss_cons (ps_fld (pv 0) (pe_op op_add_str (pe_fld (pv 0) rfl) (pv 1)) rfl)
    (pss_one (ps_ret (pe_callB call_len (by rfl) T.m_len (by decide +kernel) (pa_cons (pe_fld (pv 0) rfl) pa_nil)))))), ?_⟩
    walk_at "st"
    repeat walk_at "rd"
    rcases h with ⟨y, rfl, hz, q⟩ | ⟨tn, ty, hT, nT, q⟩
    · refine use_chkS ?_
      repeat walk_at "rd"
      refine q_addS (by rw [lnL]; omega) ?_
      repeat walk_at "rd"
      refine dsk_store ha T.c_Disk T.n_Disk_content (dskF_putC _ _ _) (fun H' dx e ne => ?_)
      have hd : DiskAt K H' a (z ++ y) n := ⟨dx, e⟩
      have hl : (z ++ y).length ≤ 100000 := by rw [PySem.Str.length_append]; omega
      repeat walk_at "rd"
      exact q H' ne hd
    · exact ⟨v, rfl, .inr ⟨tn, ty, hT, nT, q⟩⟩
theorem sc_Disk_sync : FnScope ["self"] ["self"] (defScope s_Disk_sync) := ⟨rfl, rfl, rfl, by decide +kernel, rfl, by decide +kernel, by decide +kernel⟩
theorem ok_Disk_sync {gg : Bool} (T : Tx K mg) : FnG P w K mg base CX0 gg 1 (He.ma K (He.ga K "Disk") "sync") T.fd_Disk_sync ["self"] (sp_dsync K) := by
  refine funG T.F_Disk_sync sc_Disk_sync (fun vs H Q E h => ?_) (fun cdv A outer s H vs Q E hr hg h => ?_)
  · obtain ⟨a, z, n, e, _⟩ := h; rw [e]; rfl
  · obtain ⟨a, z, n, rfl, ha, hz, q⟩ := h
    refine ⟨_, (pss_cons (ps_fld (pv 0) (pe_callB call_len (by rfl) T.m_len (by decide +kernel) (pa_cons (pe_fld (pv 0) rfl) pa_nil)) rfl)
    (pss_one (ps_ret (pe_fld (pv 0) rfl)))), ?_⟩
    walk_at "st"
    repeat walk_at "rd"
    refine dsk_store ha T.c_Disk T.n_Disk_sure (dskF_putS _ _ _) (fun H' dx e ne => ?_)
    have hd : DiskAt K H' a z z.length := ⟨dx, e⟩
    repeat walk_at "rd"
    exact q H' ne hd
theorem sc_Disk_stopped : FnScope ["self", "length"] ["self", "length"] (defScope s_Disk_stopped) := ⟨rfl, rfl, rfl, by decide +kernel, rfl, by decide +kernel, by decide +kernel⟩
theorem ok_Disk_stopped {gg : Bool} (T : Tx K mg) : FnG P w K mg base (L2.CX P w) gg 6 (He.ma K (He.ga K "Disk") "stopped") T.fd_Disk_stopped ["self", "length"] (sp_dstop K) := by
  refine funX T.F_Disk_stopped sc_Disk_stopped (fun vs H Q E h => ?_) (fun cdv A outer s H vs Q E _hc hr hg h => ?_)
  · obtain ⟨a, z, n, v, e, _⟩ := h; rw [e]; rfl
  · obtain ⟨a, z, n, v, rfl, ha, hz, h⟩ := h
    refine ⟨_, (pss_cons (ps_if (PW.pt (pw_or (pt_not (pt_val (pg_call (ok_is_whole T) (hr.mono (by decide)) hg (by rfl) T.g_is_whole T.F_is_whole.kp T.b_is_whole .nil pass0 (pa_cons (pv 1) pa_nil)))) (pw_or1 (pt_not (pt_chain op_le op_le (pe_fld (pv 0) rfl) (pv 1) (pe_callB call_len (by rfl) T.m_len (by decide +kernel) (pa_cons (pe_fld (pv 0) rfl) pa_nil))))))) (pss_one (ps_raise rfl (takes_of rfl rfl rfl rfl) (pmk_oex T.x_InvalidLength.o T.x_InvalidLength.i T.x_InvalidLength.t (g_ok (ok_InvalidLengthU_initU T)) (hr.mono (by decide)) T.b_InvalidLengthU_initU .nil pass0 (by rfl) T.g_InvalidLength (pa_cons (pv 1) pa_nil)))) pss_nil)
    (pss_one (ps_ret (pg_make T.k_Disk (ok_DiskU_initU T) (hr.mono (by decide)) hg (by rfl) T.g_Disk T.b_DiskU_initU .nil (passX (takes_of rfl rfl rfl rfl) (fun _ _ _ _ h => h)) (pa_cons (pe_slice sl_str (pe_fld (pv 0) rfl) po_none (po_some (pv 1))) pa_nil))))), ?_⟩
    walk_at "st"
    repeat walk_at "rd"
    rcases h with ⟨m, rfl, h1, h2, hl, q⟩ | ⟨tn, ty, hT, hm, q⟩
    · refine use_iswI ?_
      repeat walk_at "rd"
      rw [decide_eq_true h1]
      repeat walk_at "rd"
      rw [decide_eq_true h2]
      repeat walk_at "rd"
      refine use_mkD rfl hl (fun p H' s hp hd => ?_)
      exact q p H' hp s hd
    · refine use_isw ty hT ?_
      refine r_blV ?_
      refine r_ndec (fun e => ?_) (fun e => ?_)
      · repeat walk_at "rd"
        exact use_raise T.x_InvalidLength.o T.nf_InvalidLength rfl q
      · obtain ⟨m, rfl, hm2⟩ := hm e
        repeat walk_at "rd"
        refine r_dec (fun e1 => ?_) (fun e1 => ?_)
        · repeat walk_at "rd"
          refine r_ndec (fun e2 => ?_) (fun e2 => absurd (And.intro e1 e2) hm2)
          repeat walk_at "rd"
          exact use_raise T.x_InvalidLength.o T.nf_InvalidLength rfl q
        · repeat walk_at "rd"
          exact use_raise T.x_InvalidLength.o T.nf_InvalidLength rfl q
theorem sc_Disk_without_beginning : FnScope ["self", "length", "other"] ["self", "length"] (defScope s_Disk_without_beginning) := ⟨rfl, rfl, rfl, by decide +kernel, rfl, by decide +kernel, by decide +kernel⟩
theorem ok_Disk_without_beginning {gg : Bool} (T : Tx K mg) : FnG P w K mg base CX0 gg 6 (He.ma K (He.ga K "Disk") "without_beginning") T.fd_Disk_without_beginning ["self", "length"] (sp_dwob K) := by
  refine funG T.F_Disk_without_beginning sc_Disk_without_beginning (fun vs H Q E h => ?_) (fun cdv A outer s H vs Q E hr hg h => ?_)
  · obtain ⟨a, z, n, e, _⟩ := h; rw [e]; rfl
  · obtain ⟨a, z, n, rfl, ha, hz, hn, q⟩ := h
    refine ⟨_, (pss_cons (ps_set (i := 2) sc_Disk_without_beginning.nd rfl (by first | exact Or.inl rfl | exact Or.inr rfl) (pg_make T.k_Disk (ok_DiskU_initU T) (hr.mono (by decide)) hg (by rfl) T.g_Disk T.b_DiskU_initU .nil passN (pa_cons (pe_slice sl_str (pe_fld (pv 0) rfl) (po_some (pv 1)) po_none) pa_nil)))
    (pss_cons (ps_fld (pv 2) (pe_callB (call_max2 rfl) (by rfl) T.m_max (by decide +kernel) (pa_cons pe_int (pa_cons (pe_op op_sub (pe_fld (pv 0) rfl) (pv 1)) pa_nil))) rfl)
    (pss_one (ps_ret (pv 2))))), ?_⟩
    walk_at "st"
    repeat walk_at "rd"
    have e0 : cutS z (some 0) none = z := cutS_all z
    refine use_mkD (z := z) (by rw [e0]; rfl) hz (fun p H1 s hp hd => ?_)
    have ha1 := ha.same s
    have np : a ≠ p := ha.ne hp
    repeat walk_at "rd"
    refine dsk_store hd T.c_Disk T.n_Disk_sure (dskF_putS _ _ _) (fun H' dx e ne => ?_)
    have hd2 : DiskAt K H' p z n := ⟨dx, by rw [e]; congr 2; show dskF z _ = _; congr 1; split <;> omega⟩
    repeat walk_at "rd"
    exact q p H' hp (fun b o eb => by rw [ne b (ne_of_none eb hp)]; exact s b o eb) hd2
theorem sc_Disk_clone : FnScope ["self"] ["self"] (defScope s_Disk_clone) := ⟨rfl, rfl, rfl, by decide +kernel, rfl, by decide +kernel, by decide +kernel⟩
theorem ok_Disk_clone {gg : Bool} (T : Tx K mg) : FnG P w K mg base CX0 gg 7 (He.ma K (He.ga K "Disk") "clone") T.fd_Disk_clone ["self"] (sp_dclone K) := by
  refine funG T.F_Disk_clone sc_Disk_clone (fun vs H Q E h => ?_) (fun cdv A outer s H vs Q E hr hg h => ?_)
  · obtain ⟨a, z, n, e, _⟩ := h; rw [e]; rfl
  · obtain ⟨a, z, n, rfl, ha, hz, hn, q⟩ := h
    refine ⟨_, (pss_one (ps_ret (pg_meth (pv 0) T.c_Disk T.mt_Disk_without_beginning (ok_Disk_without_beginning T) (hr.mono (by decide)) hg T.b_Disk_without_beginning .nil pass0 (pa_cons pe_int pa_nil)))), ?_⟩
    walk_at "st"
    repeat walk_at "rd"
    refine dsk_meth ha (by decide +kernel) (by decide +kernel) ?_
    repeat walk_at "rd"
    exact ⟨a, z, n, rfl, ha, hz, hn, q⟩
theorem sc_DiskU_eqU : FnScope ["self", "other"] ["self", "other"] (defScope s_DiskU_eqU) := ⟨rfl, rfl, rfl, by decide +kernel, rfl, by decide +kernel, by decide +kernel⟩
theorem ok_DiskU_eqU {gg : Bool} (T : Tx K mg) : FnG P w K mg base CX0 gg 1 (He.ma K (He.ga K "Disk") "__eq__") T.fd_DiskU_eqU ["self", "other"] (sp_deq K) := by
  refine funG T.F_DiskU_eqU sc_DiskU_eqU (fun vs H Q E h => ?_) (fun cdv A outer s H vs Q E hr hg h => ?_)
  · rcases h with ⟨a, b, z, n, z2, n2, e, _⟩ | ⟨a, z, n, v, e, _⟩
    · rw [e]; rfl
    · rw [e]; rfl
  · refine ⟨_, (pss_one (ps_ret (pe_and (pe_callB call_isi (by rfl) T.m_isinstance (by decide +kernel) (pa_cons (pv 1) (pa_cons (pe_glob (v := .ref (He.ga K "Disk")) (by rfl) T.g_Disk rfl) pa_nil))) (pe_and (pe_cmpR op_eq (pe_fld (pv 0) rfl) (pe_fld (pv 1) rfl) (nomark _)) (pe_one (pe_cmpR op_eq (pe_fld (pv 0) rfl) (pe_fld (pv 1) rfl) (nomark _))))))), ?_⟩
    rcases h with ⟨a, b, z, n, z2, n2, rfl, ha, hb, q⟩ | ⟨a, z, n, v, rfl, ha, ty, q⟩
    · walk_at "st"
      repeat walk_at "rd"
      obtain ⟨dx, eb⟩ := id hb
      refine r_isi (b := true) (ty_own eb T.c_Disk T.i_Disk) (.own _) kit_self ?_
      repeat walk_at "rd"
      refine r_dec (fun e => ?_) (fun e => ?_)
      · repeat walk_at "rd"
        have : decide (n = n2) = decide (z = z2 ∧ n = n2) := by
          by_cases h : n = n2
          · rw [decide_eq_true h, decide_eq_true ⟨e, h⟩]
          · rw [decide_eq_false h, decide_eq_false fun z => h z.2]
        rw [this]; exact q
      · have : decide (z = z2 ∧ n = n2) = false := decide_eq_false fun h => e h.1
        rw [this] at q; exact q
    · walk_at "st"
      repeat walk_at "rd"
      refine r_isi (b := false) ty (.own _) T.kt_list_Disk ?_
      repeat walk_at "rd"
      exact q

end
/-! ### what the law draws with -/
abbrev Tb (K : PySem.W.Frag) : List (Addr × Str) := tabL K ftabs
def PotAt (H : Hp) (p : Addr) : Prop := ∃ c0 c1, H p = some (.lst [.int c0, .int c1]) ∧ 0 ≤ c1 ∧ c1 < 1000000000000
theorem PotAt.same {H H' : Hp} {p : Addr} (h : PotAt H p) (s : Same H H') : PotAt H' p := let ⟨c0, c1, e, z⟩ := h; ⟨c0, c1, s _ _ e, z⟩
theorem PotAt.fr {T : List (Addr × Str)} {S : List Addr} {H H' : Hp} {p : Addr} (h : PotAt H p) (f : Fr T S H H') (hp : p ∉ S) : PotAt H' p := let ⟨c0, c1, e, z⟩ := h; ⟨c0, c1, f.at_ e trivial hp, z⟩
theorem PotAt.neq {p D : Addr} {H : Hp} (h : PotAt H p) (n : H D = none) : D ≠ p := by
  rintro rfl
  obtain ⟨c0, c1, e, _⟩ := h
  rw [n] at e
  cases e
theorem PotAt.off {p D : Addr} {H H' : Hp} (h : PotAt H p) (n : D ≠ p) (ne : ∀ b, b ≠ D → H' b = H b) : PotAt H' p := by
  obtain ⟨c0, c1, e, z⟩ := h
  exact ⟨c0, c1, by rw [ne p n.symm]; exact e, z⟩
theorem PotAt.set {K : PySem.W.Frag} {p : Addr} {S : List Addr} {H H' : Hp} (h : PotAt H p) (hp : p ∈ S) (ne : ∀ b, b ≠ p → H' b = H b) : Fr (Tb K) S H H' := by
  obtain ⟨c0, c1, e, _⟩ := h
  exact .set e trivial hp ne
def sp_pot (K : PySem.W.Frag) : Sp := fun vs H Q _ => ∃ a, ∃ ns : List Int, ∃ k, vs = [.ref a, .int k] ∧ SqL K H a (ns.map V.int) ∧ 0 ≤ k ∧ k < 1000 ∧ ∀ p H', H p = none → Same H H' → PotAt H' p → Q (.ref p) H'
def sp_take (K : PySem.W.Frag) : Sp := fun vs H Q _ => ∃ p m, vs = [.ref p, .int m] ∧ PotAt H p ∧ 0 < m ∧ m < 1073741824 ∧ ∀ d H', 0 ≤ d → d < m → PotAt H' p → Fr (Tb K) [p] H H' → Q (.int d) H'
def sp_pickL (K : PySem.W.Frag) : Sp := fun vs H Q _ => ∃ p l xs, vs = [.ref p, .ref l] ∧ PotAt H p ∧ H l = some (.lst xs) ∧ l ≠ p ∧ xs ≠ [] ∧ xs.length < 1000 ∧ ∀ x H', x ∈ xs → PotAt H' p → Fr (Tb K) [p] H H' → Q x H'
def sp_pickS (K : PySem.W.Frag) : Sp := fun vs H Q _ => ∃ p z, vs = [.ref p, .str z] ∧ PotAt H p ∧ 0 < z.length ∧ z.length < 1000 ∧ Ok8 z ∧ ∀ c H', c ∈ TL.tl z → PotAt H' p → Fr (Tb K) [p] H H' → Q (.str ⟨#[c]⟩) H'
def sp_pick (K : PySem.W.Frag) : Sp := fun vs H Q E => sp_pickL K vs H Q E ∨ sp_pickS K vs H Q E
section
variable {K : PySem.W.Frag} {H : Hp} {Q : VK} {E : XK} {p a : Addr}
theorem use_pot {ns : List Int} {k : Int} (h : SqL K H a (ns.map V.int)) (h0 : 0 ≤ k) (h1 : k < 1000) (q : ∀ p H', H p = none → Same H H' → PotAt H' p → Q (.ref p) H') : sp_pot K ([.ref a, .int k] ++ []) H Q E := ⟨a, ns, k, rfl, h, h0, h1, q⟩
theorem use_take {m : Int} (h : PotAt H p) (h0 : 0 < m) (h1 : m < 1073741824) (q : ∀ d H', 0 ≤ d → d < m → PotAt H' p → Fr (Tb K) [p] H H' → Q (.int d) H') : sp_take K ([.ref p, .int m] ++ []) H Q E := ⟨p, m, rfl, h, h0, h1, q⟩
theorem use_pickL {l : Addr} {xs : List V} (h : PotAt H p) (hl : H l = some (.lst xs)) (hn : l ≠ p) (h0 : xs ≠ []) (h1 : xs.length < 1000) (q : ∀ x H', x ∈ xs → PotAt H' p → Fr (Tb K) [p] H H' → Q x H') : sp_pick K ([.ref p, .ref l] ++ []) H Q E := .inl ⟨p, l, xs, rfl, h, hl, hn, h0, h1, q⟩
theorem use_pickS {z : Str} (h : PotAt H p) (h0 : 0 < z.length) (h1 : z.length < 1000) (hz : Ok8 z) (q : ∀ c H', c ∈ TL.tl z → PotAt H' p → Fr (Tb K) [p] H H' → Q (.str ⟨#[c]⟩) H') : sp_pick K ([.ref p, .str z] ++ []) H Q E := .inr ⟨p, z, rfl, h, h0, h1, hz, q⟩
theorem r_setL {l : Addr} {xs : List V} {m : Int} {j : Nat} {v : V} {QH : Hp → Prop} (h : H l = some (.lst xs)) (e : ixN xs.length m = some j) (q : ∀ H2, H2 l = some (.lst (xs.set j v)) → (∀ b, b ≠ l → H2 b = H b) → QH H2) : rSetL (.ref l) (.int m) v H QH := ⟨l, xs, m, j, rfl, rfl, h, e, q _ upd_same fun b hb => upd_ne hb⟩
end
theorem r_bm {K : PySem.W.Frag} {T : String} {r : V → List V → Hp → VK → Prop} {to : TE} {t : TA} {σ : L2.St} {H : Hp} {Q : VK} (q : to σ H fun x H1 => tyV K T x H1 ∧ t σ H1 fun xs H2 => r x xs H2 Q) : tBM K T r to t σ H Q := q
theorem q_list {K : PySem.W.Frag} {p : Addr} {xs : List V} {H : Hp} {A : Prop} (h : H p = some (.lst xs)) (q : A) : tyV K "list" (.ref p) H ∧ A := ⟨.inl ⟨rfl, _, .inl (.inl h)⟩, q⟩
theorem q_itl {K : PySem.W.Frag} {a : Addr} {xs : List V} {H : Hp} {A : Addr → Prop} (h : H a = some (.lst xs)) (q : A a) : ∃ a', V.ref a = .ref a' ∧ (∃ xs, SqL K H a' xs) ∧ A a' := ⟨a, rfl, ⟨xs, .inl (.inl h)⟩, q⟩
theorem q_par {v w : V} {A : V → V → Prop} (q : A v w) : ∃ v' w', [v, w] = [v', w'] ∧ A v' w' := ⟨v, w, rfl, q⟩
theorem cm_small {i j : Int} (h1 : -18446744073709551616 < i) (h2 : i < 18446744073709551616) (h3 : -18446744073709551616 < j) (h4 : j < 18446744073709551616) : CMulW i j :=
  Sz.cm (a := 64) (b := 64) (by unfold Sz; omega) (by unfold Sz; omega) (by decide) (by decide) (by decide)
theorem g_grow {D : Addr} {acc : List V} {y : V} {Nx : Hp → Prop} {H : Hp} (h : H D = some (.lst acc)) (hz : acc.length < 100000) (q : ∀ H2, H2 D = some (.lst (acc ++ [y])) → (∀ b, b ≠ D → H2 b = H b) → Nx H2) : Grow D Nx y H := ⟨acc, h, Nat.lt_of_lt_of_le hz (by decide), q _ upd_same fun b hb => upd_ne hb⟩

local macro_rules
  | `(tactic| walk_at "sd") => `(tactic| first
    | exact cm_small (by omega) (by omega) (by omega) (by omega)
    | (show (0 : Int) ≤ _ ∧ _; decide +kernel))
local macro_rules
  | `(tactic| walk_at "rd") => `(tactic| first
    | with_reducible refine r_bm ?_
    | refine q_list (by assumption) ?_
    | refine q_itl (by assumption) ?_
    | ((with_reducible refine q_par ?_); dsimp only [List.set])
    | with_reducible refine q_par ?_
    | refine q_lenL (.inl (.inl (by assumption))) ?_
    | refine r_ixL (.inl (.inl (by assumption))) (by rfl) ?_
    | refine r_ixT (.inl (.inl (by assumption))) (by rfl) ?_)

section
variable {P : Program} {w : World} {K : PySem.W.Frag} {mg : Str → Option Value} {base : Heap}
theorem sc_l_pot : FnScope ["_law_script", "_law_k", "_law_cell"] ["_law_script", "_law_k"] (defScope s_l_pot) := ⟨rfl, rfl, rfl, by decide +kernel, rfl, by decide +kernel, by decide +kernel⟩
theorem ok_l_pot (T : Tx K mg) : FnG P w K mg base CX0 true 1 (He.ga K "_law_pot") T.fd_l_pot ["_law_script", "_law_k"] (sp_pot K) := by
  refine funG T.F_l_pot sc_l_pot (fun vs H Q E h => ?_) (fun cdv A outer s H vs Q E hr hg h => ?_)
  · obtain ⟨a, ns, k, e, _⟩ := h; rw [e]; rfl
  · obtain ⟨a, ns, k, rfl, hs, h0, h1, q⟩ := h
    refine ⟨_, (pss_cons (ps_set (i := 2) sc_l_pot.nd rfl (by first | exact Or.inl rfl | exact Or.inr rfl) (pe_op op_add (pe_op op_mulW pe_int (pv 1)) pe_int))
    (pss_cons (ps_if (pt_cmpR op_lt (pv 1) (pe_callB call_len (by rfl) T.m_len (by decide +kernel) (pa_cons (pv 0) pa_nil)) (nomark _)) (pss_one (ps_set (i := 2) sc_l_pot.nd rfl (by first | exact Or.inl rfl | exact Or.inr rfl) (pe_callB call_abs (by rfl) T.m_abs (by decide +kernel) (pa_cons (pe_ix (ix_listK (K' := K)) (pv 0) (pv 1) (fun _ _ => rfl)) pa_nil)))) pss_nil)
    (pss_one (ps_ret (pe_lst (pa_cons (pe_callB (call_max2 rfl) (by rfl) T.m_max (by decide +kernel) (pa_cons pe_int (pa_cons (pe_op op_sub (pv 2) (pe_op op_pow pe_int pe_int)) pa_nil))) (pa_cons (pe_op op_add (pe_op op_add (pe_op op_mulW (pe_op op_mod (pe_callTy call_int1 (by rfl) T.m_int (by decide +kernel) (pa_cons (pv 2) pa_nil)) pe_int) pe_int) (pe_op op_mulW pe_int (pv 1))) pe_int) pa_nil))))))), ?_⟩
    walk_at "st"
    repeat walk_at "rd"
    refine q_lenL hs ?_
    repeat walk_at "rd"
    refine r_dec (fun e => ?_) (fun e => ?_)
    · repeat walk_at "rd"
      obtain ⟨j, rfl⟩ := Int.eq_ofNat_of_zero_le h0
      rw [List.length_map] at e
      refine r_ixL (v := .int (ns.getD j 0)) hs (atI_nat (by rw [List.getElem?_map, List.getD_eq_getElem?_getD, List.getElem?_eq_getElem (by omega)]; rfl)) ?_
      repeat walk_at "rd"
      refine r_new (by show 2 ≤ 100000; decide) (fun p H2 hp s e2 _ => ?_)
      exact q p H2 hp s ⟨_, _, e2, by omega, by omega⟩
    · repeat walk_at "rd"
      refine r_new (by show 2 ≤ 100000; decide) (fun p H2 hp s e2 _ => ?_)
      exact q p H2 hp s ⟨_, _, e2, by omega, by omega⟩
theorem sc_l_take : FnScope ["_law_pot_here", "_law_many", "_law_digit"] ["_law_pot_here", "_law_many"] (defScope s_l_take) := ⟨rfl, rfl, rfl, by decide +kernel, rfl, by decide +kernel, by decide +kernel⟩
theorem ok_l_take (T : Tx K mg) : FnG P w K mg base CX0 true 1 (He.ga K "_law_take") T.fd_l_take ["_law_pot_here", "_law_many"] (sp_take K) := by
  refine funG T.F_l_take sc_l_take (fun vs H Q E h => ?_) (fun cdv A outer s H vs Q E hr hg h => ?_)
  · obtain ⟨p, m, e, _⟩ := h; rw [e]; rfl
  · obtain ⟨p, m, rfl, hp0, m0, m1, q⟩ := h
    obtain ⟨c0, c1, ep, z0, z1⟩ := id hp0
    refine ⟨_, (pss_cons (ps_if (pt_cmpR op_gt (pe_ix (ix_listK (K' := K)) (pv 0) pe_int (fun _ _ => rfl)) pe_int (nomark _)) (pss_cons (ps_asg (pe_callB call_divmod (by rfl) T.m_divmod (by decide +kernel) (pa_cons (pe_ix (ix_listK (K' := K)) (pv 0) pe_int (fun _ _ => rfl)) (pa_cons (pv 1) pa_nil))) (pg_tupK (K' := K) (n := 2) (by rfl) (pgs_cons (pg_sub (pv 0) pe_int set_list) (pgs_cons (pg_name (i := 2) sc_l_take.nd rfl (by first | exact Or.inl rfl | exact Or.inr rfl)) pgs_nil))))
    (pss_one (ps_ret (pv 2)))) pss_nil)
    (pss_cons (ps_asg (pe_op op_mod (pe_callTy call_int1 (by rfl) T.m_int (by decide +kernel) (pa_cons (pe_op op_add (pe_op op_mulW (pe_ix (ix_listK (K' := K)) (pv 0) pe_int (fun _ _ => rfl)) pe_int) pe_int) pa_nil)) pe_int) (pg_sub (pv 0) pe_int set_list))
    (pss_one (ps_ret (pe_op op_mod (pe_callTy call_int1 (by rfl) T.m_int (by decide +kernel) (pa_cons (pe_op op_fdiv (pe_op op_mod (pe_callTy call_int1 (by rfl) T.m_int (by decide +kernel) (pa_cons (pe_op op_mulW (pe_ix (ix_listK (K' := K)) (pv 0) pe_int (fun _ _ => rfl)) (pe_ix (ix_listK (K' := K)) (pv 0) pe_int (fun _ _ => rfl))) pa_nil)) pe_int) pe_int) pa_nil)) (pv 1)))))), ?_⟩
    walk_at "st"
    repeat walk_at "rd"
    refine r_dec (fun e => ?_) (fun e => ?_)
    · repeat walk_at "rd"
      refine ⟨⟨m0, m1⟩, fun r hr0 => ?_⟩
      have np : p ≠ r := ne_of_none ep hr0
      have s1 : Same H (upd H r (.tup [.int (c0 / m), .int (c0 % m)])) := fun b o eb => by rw [upd_ne (ne_of_none eb hr0)]; exact eb
      refine r_gtup (.inl (.inl upd_same)) (by rfl) ?_
      repeat walk_at "rd"
      refine r_setL (by rw [upd_ne np]; exact ep) (by rfl) (fun H3 e3 ne3 => ?_)
      have e3 : H3 p = some (.lst [.int (c0 / m), .int c1]) := e3
      repeat walk_at "rd"
      exact q (c0 % m) _ (Int.emod_nonneg _ (by omega)) (Int.emod_lt_of_pos _ m0) ⟨c0 / m, c1, e3, z0, z1⟩ ((Fr.same s1).trans ((hp0.same s1).set (by simp) ne3))
    · repeat walk_at "rd"
      refine r_setL ep (by rfl) (fun H3 e3 ne3 => ?_)
      have e3 : H3 p = some (.lst [.int c0, .int ((c1 * 48271 + 11027) % 2147483629)]) := e3
      repeat walk_at "rd"
      exact q _ _ (Int.emod_nonneg _ (by omega)) (Int.emod_lt_of_pos _ m0) ⟨c0, _, e3, by omega, by omega⟩ (hp0.set (by simp) ne3)
theorem sc_l_pick : FnScope ["_law_pot_here", "_law_some"] ["_law_pot_here", "_law_some"] (defScope s_l_pick) := ⟨rfl, rfl, rfl, by decide +kernel, rfl, by decide +kernel, by decide +kernel⟩
theorem ok_l_pickL (T : Tx K mg) : FnG P w K mg base CX0 true 2 (He.ga K "_law_pick") T.fd_l_pick ["_law_pot_here", "_law_some"] (sp_pickL K) := by
  refine funG T.F_l_pick sc_l_pick (fun vs H Q E h => ?_) (fun cdv A outer s H vs Q E hr hg h => ?_)
  · obtain ⟨p, l, xs, e, _⟩ := h; rw [e]; rfl
  · obtain ⟨p, l, xs, rfl, hp, hl, hn, h0, h1, q⟩ := h
    refine ⟨_, (pss_one (ps_ret (pe_ix (ix_listK (K' := K)) (pv 1) (pg_call (ok_l_take T) (hr.mono (by decide)) hg (by rfl) T.g_l_take T.F_l_take.kp T.b_l_take .nil pass0 (pa_cons (pv 0) (pa_cons (pe_callB call_len (by rfl) T.m_len (by decide +kernel) (pa_cons (pv 1) pa_nil)) pa_nil))) (fun _ _ => rfl)))), ?_⟩
    have hx : 0 < xs.length := List.length_pos_iff.mpr h0
    walk_at "st"
    repeat walk_at "rd"
    refine use_take hp (by omega) (by omega) (fun d H1 d0 d1 hp1 kp => ?_)
    have hl1 := kp.at_ hl trivial (by simpa using hn)
    obtain ⟨j, rfl⟩ := Int.eq_ofNat_of_zero_le d0
    repeat walk_at "rd"
    refine r_ixL (.inl (.inl hl1)) (atI_nat (List.getElem?_eq_getElem (by omega))) ?_
    exact q _ _ (List.getElem_mem _) hp1 kp

theorem ok_l_pickS (T : Tx K mg) : FnG P w K mg base CX0 true 2 (He.ga K "_law_pick") T.fd_l_pick ["_law_pot_here", "_law_some"] (sp_pickS K) := by
  refine funG T.F_l_pick sc_l_pick (fun vs H Q E h => ?_) (fun cdv A outer s H vs Q E hr hg h => ?_)
  · obtain ⟨p, z, e, _⟩ := h; rw [e]; rfl
  · obtain ⟨p, z, rfl, hp, h0, h1, hz, q⟩ := h
    refine ⟨_, (pss_one (ps_ret (pe_ix ix_str (pv 1) (pg_call (ok_l_take T) (hr.mono (by decide)) hg (by rfl) T.g_l_take T.F_l_take.kp T.b_l_take .nil pass0 (pa_cons (pv 0) (pa_cons (pe_callB call_len (by rfl) T.m_len (by decide +kernel) (pa_cons (pv 1) pa_nil)) pa_nil))) (fun _ _ => rfl)))), ?_⟩
    walk_at "st"
    have hl : z.length ≤ 100000 := by omega
    repeat walk_at "rd"
    refine use_take hp (by omega) (by omega) (fun d H1 d0 d1 hp1 kp => ?_)
    obtain ⟨j, rfl⟩ := Int.eq_ofNat_of_zero_le d0
    have hj : j < (TL.tl z).length := by rw [← len_tl]; omega
    repeat walk_at "rd"
    refine r_ixS hl (atI_nat (List.getElem?_eq_getElem hj)) ?_
    exact q _ _ (List.getElem_mem _) hp1 kp
theorem ok_l_pick (T : Tx K mg) : FnG P w K mg base CX0 true 2 (He.ga K "_law_pick") T.fd_l_pick ["_law_pot_here", "_law_some"] (sp_pick K) := (ok_l_pickL T).both (ok_l_pickS T)

end
/-- what _law_refused makes of the lambda's reading: what is told; or the error's word, its value's repr, True -/
def RefE (K : PySem.W.Frag) (cw : List (Str × Str)) (Q : VK) : XK := fun cls d H => ∃ C w dd v z, (C, w) ∈ cw ∧ cls = .ref (He.ga K C) ∧ d = some dd ∧ H dd = some (.xd [("value", v)]) ∧ RpV K H v z ∧
  ∀ t H', H t = none → Same H H' → H' t = some (.tup [.str w, .str z, .bl true]) → Q (.ref t) H'
def TRef (K : PySem.W.Frag) (cw : List (Str × Str)) : (XK → Hp → VK → Prop) → Hp → VK → Prop := fun tl H Q => ∀ H0, Same H H0 → tl (RefE K cw Q) H0 (fun v H2 => ∀ t, H2 t = none → Q (.ref t) (upd H2 t (.tup [.str "told", v])))

def cws : List (Str × Str) := [("InvalidLength", "length"), ("InvalidRecord", "record")]
theorem sc_l_refused : FnScope ["_law_call", "_law_found", "e"] ["_law_call"] (defScope s_l_refused) := ⟨rfl, rfl, rfl, by decide +kernel, rfl, by decide +kernel, by decide +kernel⟩
theorem ref_gives {X : Cx} {g0 : Addr} {cdg : Value} {q : Str} (T : Tx X.K X.mg) (hg : Clr true X.A) (hr : Room 1 X.A) :
    GivesTo X ["_law_call", "_law_found", "e"] "_law_refused" (defScope s_l_refused) g0 cdg (defBody s_l_refused) "_law_call" q (TRef X.K cws) := by
  obtain ⟨prog, w, K, mg, base, A0, N0, s00, H00, env0, outer0, stack0, ex0, fn0, calm0, pn0, xe0⟩ := X
  have T : Tx K mg := T
  have hg : Clr true A0 := hg
  have hr : Room 1 A0 := hr
  intro f c' s H Q tl act hc h
  have h : TRef K cws tl H Q := h
  have hgS : Clr true (A0.deeper (envOfC "_law_refused" (defScope s_l_refused) s.heap.objs.size g0 cdg)) := clr_deeper hg
  have huS : (A0.deeper (envOfC "_law_refused" (defScope s_l_refused) s.heap.objs.size g0 cdg)).units + 64 < cLine := (hr.deeper _).units
  refine ⟨_, (pss_cons (ps_set (i := 1) sc_l_refused.nd rfl (by first | exact Or.inl rfl | exact Or.inr rfl) (pe_tup (pa_cons pe_str (pa_cons pe_non pa_nil))))
    (pss_cons (ps_tryAs rfl rfl sc_l_refused.nd takesNo (fun W pn xe tk _ => (pss_ex (fun Ech hW => (pss_one (ps_set (i := 1) sc_l_refused.nd rfl (by first | exact Or.inl rfl | exact Or.inr rfl) (pe_tup (pa_cons pe_str (pa_cons (act W pn xe Ech _ _ tk hW) pa_nil)))))))) (HdAs.cons (q := ⟨.ref (He.ga _ "InvalidLength"), 2, _⟩) rfl rfl ⟨by rfl, by decide, .inl T.g_InvalidLength⟩ (fun a oe cls d pn hz hf => (pss_len (n := 3) rfl (pss_one (ps_set (i := 1) sc_l_refused.nd rfl (by first | exact Or.inl rfl | exact Or.inr rfl) (pe_tup (pa_cons pe_str (pa_cons (pe_callB (cr_reprVK (K' := K) (clr_mark hgS) huS) (by rfl) T.m_repr (by decide +kernel) (pa_cons (pe_xf T.x_InvalidLength.x T.nf_InvalidLength hz hf (pv 2)) pa_nil)) (pa_cons (pe_callB (call_isEg T.x_InvalidLength.e hz hf) (by rfl) T.m_isinstance (by decide +kernel) (pa_cons (pv 2) (pa_cons (pe_glob (v := .ref (He.ga K "LeastlogError")) (by rfl) T.g_LeastlogError rfl) pa_nil))) pa_nil)))))))) (HdAs.cons (q := ⟨.ref (He.ga _ "InvalidRecord"), 2, _⟩) rfl rfl ⟨by rfl, by decide, .inl T.g_InvalidRecord⟩ (fun a oe cls d pn hz hf => (pss_len (n := 3) rfl (pss_one (ps_set (i := 1) sc_l_refused.nd rfl (by first | exact Or.inl rfl | exact Or.inr rfl) (pe_tup (pa_cons pe_str (pa_cons (pe_callB (cr_reprVK (K' := K) (clr_mark hgS) huS) (by rfl) T.m_repr (by decide +kernel) (pa_cons (pe_xf T.x_InvalidRecord.x T.nf_InvalidRecord hz hf (pv 2)) pa_nil)) (pa_cons (pe_callB (call_isEg T.x_InvalidRecord.e hz hf) (by rfl) T.m_isinstance (by decide +kernel) (pa_cons (pv 2) (pa_cons (pe_glob (v := .ref (He.ga K "LeastlogError")) (by rfl) T.g_LeastlogError rfl) pa_nil))) pa_nil)))))))) HdAs.nil)))
    (pss_one (ps_ret (pv 1))))), ?_⟩
  walk_at "st"
  repeat walk_at "rd"
  refine r_new (by show 2 ≤ 100000; decide) (fun t0 H1 ht0 s1 e1 _ => ?_)
  repeat walk_at "rd"
  refine ⟨RefE K cws Q, ?_, ?_⟩
  · rintro cls d σ' H' ⟨C, w, dd, v, z, hm, rfl, rfl, ed, hz, q⟩
    simp only [cws, List.mem_cons, List.not_mem_nil, or_false, Prod.mk.injEq] at hm
    rcases hm with ⟨rfl, rfl⟩ | ⟨rfl, rfl⟩
    · refine wCls_yes T.e_InvalidLength_InvalidLength (fun a ha hl => ?_)
      dsimp only [endsOff]
      obtain ⟨x0, x1, x2, rfl⟩ := three (by simpa using hl)
      repeat walk_at "rd"
      refine ⟨rfl, rfl, dd, _, v, rfl, ed, lk1 _ _, ?_⟩
      repeat walk_at "rd"
      refine r_repr hz ?_
      repeat walk_at "rd"
      refine ⟨rfl, dd, _, _, true, _, rfl, rfl, ed, .own _, T.k_InvalidLength_LeastlogError, ?_⟩
      repeat walk_at "rd"
      refine r_new (by show 3 ≤ 100000; decide) (fun t H2 ht s2 e2 _ => ?_)
      repeat walk_at "rd"
      exact q t H2 ht s2 e2
    · refine wCls_no T.e_InvalidRecord_InvalidLength (wCls_yes T.e_InvalidRecord_InvalidRecord (fun a ha hl => ?_))
      dsimp only [endsOff]
      obtain ⟨x0, x1, x2, rfl⟩ := three (by simpa using hl)
      repeat walk_at "rd"
      refine ⟨rfl, rfl, dd, _, v, rfl, ed, lk1 _ _, ?_⟩
      repeat walk_at "rd"
      refine r_repr hz ?_
      repeat walk_at "rd"
      refine ⟨rfl, dd, _, _, true, _, rfl, rfl, ed, .own _, T.k_InvalidRecord_LeastlogError, ?_⟩
      repeat walk_at "rd"
      refine r_new (by show 3 ≤ 100000; decide) (fun t H2 ht s2 e2 _ => ?_)
      repeat walk_at "rd"
      exact q t H2 ht s2 e2
  · repeat walk_at "rd"
    refine ⟨rfl, s1 _ _ hc, ?_⟩
    refine cast (congrArg (tl _ H1) (funext fun v => funext fun H2 => propext ⟨fun z => ?_, fun z => ?_⟩)) (h H1 s1)
    · refine ⟨(by decide : 2 ≤ sizeLine), fun p H' hp s e ne => ?_⟩
      have := z p hp
      rw [← upd_of e ne] at this
      exact ⟨_, rfl, this⟩
    · intro t ht
      obtain ⟨v', e', q'⟩ := z.2 t _ ht (same_upd ht) upd_same (fun b hb => upd_ne hb)
      cases e'
      exact q'

def sp_text (K : PySem.W.Frag) : Sp := fun vs H Q _ => ∃ p, vs = [.ref p] ∧ PotAt H p ∧ ∀ z H', z.length ≤ 9 → Asc z → PotAt H' p → Fr (Tb K) [p] H H' → Q (.str z) H'
def sp_shown (K : PySem.W.Frag) : Sp := fun vs H Q _ => ∃ a m z n, vs = [.ref a, .ref m] ∧ DiskAt K H a z n ∧ H m = some (.lst [.str z, .int n]) ∧ Asc z ∧ z.length ≤ 1000 ∧ 0 ≤ n ∧ n ≤ 1000 ∧ ∀ H', Same H H' → Q (.bl true) H'
/-- a disk and the list that says what it holds -/
structure DM (K : PySem.W.Frag) (H : Hp) (a m : Addr) (z : Str) (n : Int) : Prop where
  d : DiskAt K H a z n
  m : H m = some (.lst [.str z, .int n])
  asc : Asc z
  n0 : 0 ≤ n
  n1 : n ≤ z.length
def sp_ref (K : PySem.W.Frag) : Sp := fun vs H Q _ => ∃ p a m z n, vs = [.ref p, .ref a, .ref m] ∧ PotAt H p ∧ DM K H a m z n ∧ z.length ≤ 1000 ∧ Tabs (Tb K) H ∧ ∀ H', PotAt H' p → Fr (Tb K) [p] H H' → Q (.bl true) H'
/-- a value that a disk of n sure signs, l in all, can't stop at -/
def Odd (K : PySem.W.Frag) (H : Hp) (n l : Int) (v : V) : Prop := ∃ tn z, TyX K H v (.type tn) ∧ tn ∈ kindsW ∧ (tn = "int" → ∃ m : Int, v = .int m ∧ ¬ (n ≤ m ∧ m ≤ l)) ∧ RpA K H v z
/-- a value that is no string -/
def NoS (K : PySem.W.Frag) (H : Hp) (v : V) : Prop := ∃ tn z, TyX K H v (.type tn) ∧ tn ∈ kindsW ∧ tn ≠ "str" ∧ RpA K H v z
theorem DM.ne {K : PySem.W.Frag} {H : Hp} {a m p : Addr} {z : Str} {n : Int} (h : DM K H a m z n) (hp : PotAt H p) : a ≠ p ∧ m ≠ p := by
  obtain ⟨c0, c1, e, _⟩ := hp
  constructor
  · rintro rfl
    obtain ⟨dx, z⟩ := h.d
    rw [e] at z
    cases z
  · rintro rfl
    have := h.m
    rw [e] at this
    cases this
theorem DM.fr {K : PySem.W.Frag} {S : List Addr} {H H' : Hp} {a m : Addr} {z : Str} {n : Int} (h : DM K H a m z n) (f : Fr (Tb K) S H H') (ha : a ∉ S) (hm : m ∉ S) : DM K H' a m z n := ⟨h.d.fr f ha, f.at_ h.m trivial hm, h.asc, h.n0, h.n1⟩
theorem DM.same {K : PySem.W.Frag} {H H' : Hp} {a m : Addr} {z : Str} {n : Int} (h : DM K H a m z n) (s : Same H H') : DM K H' a m z n := ⟨h.d.same s, s _ _ h.m, h.asc, h.n0, h.n1⟩
theorem rp_list {K : PySem.W.Frag} {H : Hp} {m : Addr} {z : Str} {n : Int} (h : H m = some (.lst [.str z, .int n])) (hz : Asc z) (hl : z.length ≤ 1000) (h0 : 0 ≤ n) (h1 : n ≤ 1000) : RpV K H (.ref m) (PyData.shown (.list [.str z, .int n])) := by
  refine rpv (.lst (.inl (.inl h)) (.cons (.str z) (.cons (.int n) .nil))) ?_ (by simp [PyData.depth, PyData.depthAll]) ?_
  · simp only [shwB, shwAll]
    exact ⟨hz.ok8, log_small (by omega), trivial⟩
  · simp only [szD, szAll]
    omega

/-- what stands while the refusals are asked -/
structure RS (K : PySem.W.Frag) (H0 H : Hp) (p a m : Addr) (z : Str) (n : Int) : Prop where
  hp : PotAt H p
  dm : DM K H a m z n
  tb : Tabs (Tb K) H
  fr : LL.Fr (Tb K) [p] H0 H
section
variable {K : PySem.W.Frag} {H0 H H' : Hp} {p a m : Addr} {z : Str} {n : Int} {v : V} {tn : String}
theorem RS.same (r : RS K H0 H p a m z n) (s : Same H H') : RS K H0 H' p a m z n := ⟨r.hp.same s, r.dm.same s, r.tb.ext s, r.fr.trans (.same s)⟩
theorem RS.go (r : RS K H0 H p a m z n) (f : LL.Fr (Tb K) [p] H H') (hp : PotAt H' p) : RS K H0 H' p a m z n := by
  obtain ⟨n1, n2⟩ := r.dm.ne r.hp
  exact ⟨hp, r.dm.fr f (by simpa using n1) (by simpa using n2), f.tb r.tb, r.fr.trans f⟩
theorem RS.lam (r : RS K H0 H p a m z n) (f : LL.Fr (Tb K) [] H H') : RS K H0 H' p a m z n := r.go (f.mono (by simp)) (r.hp.fr f (by simp))
/-- kind and repr of a value -/
structure Kn (K : PySem.W.Frag) (H : Hp) (v : V) (tn : String) (z : Str) : Prop where
  ty : TyX K H v (.type tn)
  k : tn ∈ kindsW
  r : RpA K H v z
theorem Kn.same {z : Str} (k : Kn K H v tn z) (s : Same H H') : Kn K H' v tn z := ⟨TyX.same k.ty s, k.k, k.r.1.same s, k.r.2⟩
theorem Kn.pl {z : Str} (k : Kn K H v tn z) (s : LL.SamP H H') : Kn K H' v tn z := ⟨TyX.pl k.ty s, k.k, k.r.1.pl s, k.r.2⟩
theorem kn_non : Kn K H .non "NoneType" (PyData.shown .none) := ⟨.base .non, by decide, rpa .non (by simp only [shwB]) (by simp only [ascD]) (by decide) (by decide)⟩
theorem kn_bl (b : Bool) : Kn K H (.bl b) "bool" (PyData.shown (.bool b)) := ⟨.base (.bl b), by decide, rpa (.bl b) (by simp only [shwB]) (by simp only [ascD]) (by simp [PyData.depth]) (by simp [szD])⟩
theorem kn_int {i : Int} (h : i.natAbs.log2 < 1920) : Kn K H (.int i) "int" (PyData.shown (.int i)) := ⟨.base (.int i), by decide, rpa (.int i) (by simp only [shwB]; exact h) (by simp only [ascD]) (by simp [PyData.depth]) (by simp [szD])⟩
theorem kn_str {x : Str} (h : Asc x) (hl : x.length ≤ 1000) : Kn K H (.str x) "str" (PyData.shown (.str x)) := ⟨.base (.str x), by decide, rpa (.str x) (by simp only [shwB]; exact h.ok8) (by simp only [ascD]; exact h) (by simp [PyData.depth]) (by simp only [szD]; omega)⟩
theorem kn_lst {l : Addr} {xs : List V} {ds : List PyData} (e : H l = some (.lst xs)) (hd : DpAll K H xs ds) (s : shwB (.list ds)) (as : ascD (.list ds)) (h1 : (PyData.list ds).depth ≤ 16) (h2 : szD (.list ds) ≤ 100000) : Kn K H (.ref l) "list" (PyData.shown (.list ds)) := ⟨.base (.lst e), by decide, rpa (.lst (.inl (.inl e)) hd) s as h1 h2⟩
theorem kn_tup {l : Addr} {xs : List V} {ds : List PyData} (e : H l = some (.tup xs)) (hd : DpAll K H xs ds) (s : shwB (.tuple ds)) (as : ascD (.tuple ds)) (h1 : (PyData.tuple ds).depth ≤ 16) (h2 : szD (.tuple ds) ≤ 100000) : Kn K H (.ref l) "tuple" (PyData.shown (.tuple ds)) := ⟨.base (.tup e), by decide, rpa (.tup (.inl (.inl e)) hd) s as h1 h2⟩
theorem kn_dict {l : Addr} (e : H l = some (.dK [])) : Kn K H (.ref l) "dict" (PyData.shown (.dict [])) := ⟨.base (.dK e), by decide, rpa0 e⟩
theorem kn_lstI {l : Addr} {i : Int} (e : H l = some (.lst [.int i])) (h : i.natAbs.log2 < 1920) : ∃ zr, Kn K H (.ref l) "list" zr := ⟨_, kn_lst e (.cons (.int i) .nil) (by simp only [shwB, shwAll]; exact ⟨h, trivial⟩) (by simp only [ascD, ascAll]; exact ⟨trivial, trivial⟩) (by simp [PyData.depth, PyData.depthAll]) (by simp [szD, szAll])⟩
theorem kn_tupI {l : Addr} {i : Int} (e : H l = some (.tup [.int i])) (h : i.natAbs.log2 < 1920) : ∃ zr, Kn K H (.ref l) "tuple" zr := ⟨_, kn_tup e (.cons (.int i) .nil) (by simp only [shwB, shwAll]; exact ⟨h, trivial⟩) (by simp only [ascD, ascAll]; exact ⟨trivial, trivial⟩) (by simp [PyData.depth, PyData.depthAll]) (by simp [szD, szAll])⟩
theorem kn_lst0 {l : Addr} (e : H l = some (.lst [])) : ∃ zr, Kn K H (.ref l) "list" zr := ⟨_, kn_lst e .nil (by simp only [shwB, shwAll]) (by simp only [ascD, ascAll]) (by simp [PyData.depth, PyData.depthAll]) (by simp [szD, szAll])⟩
theorem kn_tup0 {l : Addr} (e : H l = some (.tup [])) : ∃ zr, Kn K H (.ref l) "tuple" zr := ⟨_, kn_tup e .nil (by simp only [shwB, shwAll]) (by simp only [ascD, ascAll]) (by simp [PyData.depth, PyData.depthAll]) (by simp [szD, szAll])⟩
theorem kn_lstS {l : Addr} {x : Str} (e : H l = some (.lst [.str x])) (h : Asc x) (hl : x.length ≤ 1000) : ∃ zr, Kn K H (.ref l) "list" zr := ⟨_, kn_lst e (.cons (.str x) .nil) (by simp only [shwB, shwAll]; exact ⟨h.ok8, trivial⟩) (by simp only [ascD, ascAll]; exact ⟨h, trivial⟩) (by simp [PyData.depth, PyData.depthAll]) (by simp only [szD, szAll]; omega)⟩
theorem log10 : ((10 : Int) ^ (29 : Int).toNat).natAbs.log2 < 1920 := by decide +kernel
theorem log10n : (-((10 : Int) ^ (29 : Int).toNat)).natAbs.log2 < 1920 := by decide +kernel
theorem ten29 : (10 : Int) ^ (29 : Int).toNat = 100000000000000000000000000000 := by decide +kernel
end

section
variable {P : Program} {w : World} {K : PySem.W.Frag} {mg : Str → Option Value} {base : Heap}
theorem sc_l_text : FnScope ["_law_pot_here", "_law_k"] ["_law_pot_here"] (defScope s_l_text) := ⟨rfl, rfl, rfl, by decide +kernel, rfl, by decide +kernel, by decide +kernel⟩
theorem ok_l_text (T : Tx K mg) : FnG P w K mg base CX0 true 3 (He.ga K "_law_text") T.fd_l_text ["_law_pot_here"] (sp_text K) := by
  refine funG T.F_l_text sc_l_text (fun vs H Q E h => ?_) (fun cdv A outer s H vs Q E hr hg h => ?_)
  · obtain ⟨p, e, _⟩ := h; rw [e]; rfl
  · obtain ⟨p, rfl, hp, q⟩ := h
    refine ⟨_, (pss_one (ps_ret (pe_bm PySem.F.plainAttrs_str PySem.F.slot_str_join PySem.F.type_str_join mt_join pe_str (pa_cons (pe_lc (own := [("_law_k", 1)]) (by rfl) sc_l_text.nd (pi_range1 (by rfl) T.m_range (pa_cons (pg_call (ok_l_take T) (hr.mono (by decide)) hg (by rfl) T.g_l_take T.F_l_take.kp T.b_l_take .nil pass0 (pa_cons (pv 0) (pa_cons pe_int pa_nil))) pa_nil)) (blkOk_by (own := [("_law_k", 1)]) (N := ["_law_pot_here", "_law_k"]) (sc := defScope s_l_text) (by decide +kernel)) (fun _ _ _ _ _ => (pg_name (i := 1) sc_l_text.nd rfl (by first | exact Or.inl rfl | exact Or.inr rfl))) (fun _ _ _ _ _ => pts_nil) (fun _ _ _ _ _ => (pg_call (ok_l_pick T) (hr.mono (by decide)) hg (by rfl) T.g_l_pick T.F_l_pick.kp T.b_l_pick .nil pass0 (pa_cons (pv 0) (pa_cons pe_str pa_nil))))) pa_nil)))), ?_⟩
    walk_at "st"
    repeat walk_at "rd"
    refine ⟨rfl, ?_⟩
    repeat walk_at "rd"
    refine use_take hp (by omega) (by omega) (fun d H1 d0 d1 hp1 k1 => ?_)
    repeat walk_at "rd"
    refine ⟨by omega, by omega, u_lcR (fun D H0 hD sD eD nD => ?_)⟩
    refine ⟨fun i H' => ∃ ys : List Str, ys.length = i ∧ H' D = some (.lst (ys.map V.str)) ∧ (∀ x ∈ ys, One x ∧ Asc x) ∧ PotAt H' p ∧ Fr (Tb K) [D, p] H0 H', ⟨[], rfl, eD, (fun x hx => nomatch hx), hp1.same sD, Fr.refl⟩, ?_, ?_⟩
    · rintro i H2 hi ⟨ys, hl, el, hx, hp2, k2⟩
      repeat walk_at "rd"
      refine ⟨rfl, ?_⟩
      repeat walk_at "rd"
      refine use_pickS hp2 (by decide +kernel) (by decide +kernel) (asc_by (by decide +kernel)).ok8 (fun c H3 hc hp3 k3 => ?_)
      have nDp : D ≠ p := hp1.neq hD
      have el3 := k3.at_ el trivial (by simpa using nDp)
      refine g_grow el3 (by rw [List.length_map]; omega) (fun H4 e4 ne4 => ?_)
      refine ⟨ys ++ [⟨#[c]⟩], by rw [List.length_append, hl]; rfl, by rw [e4, List.map_append]; rfl, fun x hx2 => ?_, hp3.off nDp ne4, (k2.trans (k3.mono (by simp))).trans (.set el3 trivial (by simp) ne4)⟩
      rcases List.mem_append.mp hx2 with h | h
      · exact hx x h
      · rw [List.mem_singleton.mp h]
        refine ⟨rfl, asc_one ?_⟩
        have hA : Asc "ab01 .\n" := asc_by (by decide +kernel)
        exact hA c hc
    · rintro H2 ⟨ys, hl, el, hx, hp2, k2⟩
      repeat walk_at "rd"
      have e1 := sum_one (ys := ys) fun x hx2 => (hx x hx2).1
      refine r_join (.inl (.inl el)) ?_ ?_
      · rw [e1]
        have : (Str.ofString "").length = 0 := by decide +kernel
        rw [this]
        omega
      · refine q _ _ (by rw [len_join0 tl_nil, e1]; omega) (asc_join0 tl_nil fun x hx2 => (hx x hx2).2) hp2 (Fr.step k1 hD ((Fr.same sD).trans k2))
theorem sc_l_is_shown : FnScope ["_law_disk", "_law_model"] ["_law_disk", "_law_model"] (defScope s_l_is_shown) := ⟨rfl, rfl, rfl, by decide +kernel, rfl, by decide +kernel, by decide +kernel⟩
theorem ok_l_is_shown (T : Tx K mg) : FnG P w K mg base CX0 true 3 (He.ga K "_law_is_shown") T.fd_l_is_shown ["_law_disk", "_law_model"] (sp_shown K) := by
  refine funG T.F_l_is_shown sc_l_is_shown (fun vs H Q E h => ?_) (fun cdv A outer s H vs Q E hr hg h => ?_)
  · obtain ⟨a, m, z, n, e, _⟩ := h; rw [e]; rfl
  · obtain ⟨a, m, z, n, rfl, ha, hm, hz, hl, h0, h1, q⟩ := h
    refine ⟨_, (pss_one (ps_ret (pe_cmpR op_eq (pe_callB (cr_reprV hg hr.units) (by rfl) T.m_repr (by decide +kernel) (pa_cons (pe_lst (pa_cons (pg_prop (pv 0) T.c_Disk T.p_Disk_content (ok_Disk_content T) (hr.mono (by decide)) hg T.b_Disk_content .nil pass0 rfl) (pa_cons (pg_prop (pv 0) T.c_Disk T.p_Disk_sure (ok_Disk_sure T) (hr.mono (by decide)) hg T.b_Disk_sure .nil pass0 rfl) pa_nil))) pa_nil)) (pe_callB (cr_reprV hg hr.units) (by rfl) T.m_repr (by decide +kernel) (pa_cons (pv 1) pa_nil)) (nomark _)))), ?_⟩
    walk_at "st"
    repeat walk_at "rd"
    refine r_new (by show 2 ≤ 100000; decide) (fun t H1 ht s1 e1 _ => ?_)
    repeat walk_at "rd"
    refine r_repr (rp_list e1 hz hl h0 h1) ?_
    repeat walk_at "rd"
    refine r_repr (rp_list (s1 _ _ hm) hz hl h0 h1) ?_
    repeat walk_at "rd"
    rw [decide_eq_true rfl]
    exact q _ s1
theorem sc_l_refusals_right : FnScope ["_law_pot_here", "_law_disk", "_law_model", "_law_size", "_law_odd", "_law_wrong"] ["_law_pot_here", "_law_disk", "_law_model"] (defScope s_l_refusals_right) := ⟨rfl, rfl, rfl, by decide +kernel, rfl, by decide +kernel, by decide +kernel⟩
theorem ok_l_refusals_right (T : Tx K mg) (TB : ∀ q ∈ tabsIn K ftabs, TabB base mg q.1 q.2) : FnG P w K mg base CX0 true 9 (He.ga K "_law_refusals_right") T.fd_l_refusals_right ["_law_pot_here", "_law_disk", "_law_model"] (sp_ref K) := by
  refine funX T.F_l_refusals_right sc_l_refusals_right (fun vs H Q E h => ?_) (fun cdv A outer s H vs Q E hc hr hg h => ?_)
  · obtain ⟨p, a, m, z, n, e, _⟩ := h; rw [e]; rfl
  · obtain ⟨p, a, m, z, n, rfl, hp, dm, hz, tb, q⟩ := h
    refine ⟨_, (pss_cons (ps_set (i := 3) sc_l_refusals_right.nd rfl (by first | exact Or.inl rfl | exact Or.inr rfl) (pe_callB call_len (by rfl) T.m_len (by decide +kernel) (pa_cons (pe_ix (ix_listK (K' := K)) (pv 2) pe_int (fun _ _ => rfl)) pa_nil)))
    (pss_cons (ps_set (i := 4) sc_l_refusals_right.nd rfl (by first | exact Or.inl rfl | exact Or.inr rfl) (pg_call (ok_l_pick T) (hr.mono (by decide)) hg (by rfl) T.g_l_pick T.F_l_pick.kp T.b_l_pick .nil pass0 (pa_cons (pv 0) (pa_cons (pe_lst (pa_cons pe_non (pa_cons (pe_op op_sub (pe_ix (ix_listK (K' := K)) (pv 2) pe_int (fun _ _ => rfl)) pe_int) (pa_cons (pe_op op_add (pv 3) pe_int) (pa_cons (pe_un un_neg pe_int) (pa_cons pe_bl (pa_cons pe_bl (pa_cons pe_str (pa_cons (pe_lst (pa_cons (pv 3) pa_nil)) (pa_cons (pe_tup (pa_cons pe_int pa_nil)) (pa_cons (pe_op op_pow pe_int pe_int) (pa_cons (pe_un un_neg (pe_op op_pow pe_int pe_int)) (pa_cons pe_dnewK pa_nil))))))))))))) pa_nil))))
    (pss_cons (ps_if (pt_cmpR (op_neD hr.units) (pg_lamK (k := 6) T.F_l_refused T.b_l_refused (by rfl) T.g_l_refused sc_l_refused rfl (Or.inl rfl) (fun cdv => ref_gives T hg (hr.mono (by decide))) T.tb_l_refusals_right.choose_spec.choose_spec (by decide) TB T.tabU hc (hr.mono (by decide)) (lamS_by (sc := defScope s_l_refusals_right) (by decide +kernel)) rfl (fun _ _ _ _ _ => rfl) (fun A outer s H E f c' hr => (pg_meth (pv 1) T.c_Disk T.mt_Disk_stopped (ok_Disk_stopped T) (hr.mono (by decide)) clr_no T.b_Disk_stopped .nil (passX (takes_of rfl rfl rfl rfl) (fun _ _ _ _ h => h)) (pa_cons (pv 4) pa_nil)))) (pe_tup (pa_cons pe_str (pa_cons (pe_callB (cr_reprV hg hr.units) (by rfl) T.m_repr (by decide +kernel) (pa_cons (pv 4) pa_nil)) (pa_cons pe_bl pa_nil)))) (nomark _)) (pss_one (ps_ret pe_bl)) pss_nil)
    (pss_cons (ps_set (i := 5) sc_l_refusals_right.nd rfl (by first | exact Or.inl rfl | exact Or.inr rfl) (pg_call (ok_l_pick T) (hr.mono (by decide)) hg (by rfl) T.g_l_pick T.F_l_pick.kp T.b_l_pick .nil pass0 (pa_cons (pv 0) (pa_cons (pe_lst (pa_cons pe_non (pa_cons pe_int (pa_cons pe_bl (pa_cons (pe_lst (pa_cons pe_str pa_nil)) (pa_cons (pe_tup pa_nil) (pa_cons pe_dnewK (pa_cons (pe_lst pa_nil) (pa_cons pe_int pa_nil))))))))) pa_nil))))
    (pss_cons (ps_if (pt_cmpR (op_neD hr.units) (pg_lamK (k := 4) T.F_l_refused T.b_l_refused (by rfl) T.g_l_refused sc_l_refused rfl (Or.inl rfl) (fun cdv => ref_gives T hg (hr.mono (by decide))) T.tb_l_refusals_right.choose_spec.choose_spec (by decide) TB T.tabU hc (hr.mono (by decide)) (lamS_by (sc := defScope s_l_refusals_right) (by decide +kernel)) rfl (fun _ _ _ _ _ => rfl) (fun A outer s H E f c' hr => (pg_meth (pv 1) T.c_Disk T.mt_Disk_append (ok_Disk_append T) (hr.mono (by decide)) clr_no T.b_Disk_append .nil (passX (takes_of rfl rfl rfl rfl) (fun _ _ _ _ h => h)) (pa_cons (pv 5) pa_nil)))) (pe_tup (pa_cons pe_str (pa_cons (pe_callB (cr_reprV hg hr.units) (by rfl) T.m_repr (by decide +kernel) (pa_cons (pv 5) pa_nil)) (pa_cons pe_bl pa_nil)))) (nomark _)) (pss_one (ps_ret pe_bl)) pss_nil)
    (pss_one (ps_ret (pe_and (pe_cmpR (op_eqD hr.units) (pg_lamK (k := 5) T.F_l_refused T.b_l_refused (by rfl) T.g_l_refused sc_l_refused rfl (Or.inl rfl) (fun cdv => ref_gives T hg (hr.mono (by decide))) T.tb_l_refusals_right.choose_spec.choose_spec (by decide) TB T.tabU hc (hr.mono (by decide)) (lamS_by (sc := defScope s_l_refusals_right) (by decide +kernel)) rfl (fun _ _ _ _ _ => rfl) (fun A outer s H E f c' hr => (pg_make T.k_Disk (ok_DiskU_initU T) (hr.mono (by decide)) clr_no (by rfl) T.g_Disk T.b_DiskU_initU .nil (passX (takes_of rfl rfl rfl rfl) (fun _ _ _ _ h => h)) (pa_cons (pv 5) pa_nil)))) (pe_tup (pa_cons pe_str (pa_cons (pe_callB (cr_reprV hg hr.units) (by rfl) T.m_repr (by decide +kernel) (pa_cons (pv 5) pa_nil)) (pa_cons pe_bl pa_nil)))) (nomark _)) (pe_one (pg_call (ok_l_is_shown T) (hr.mono (by decide)) hg (by rfl) T.g_l_is_shown T.F_l_is_shown.kp T.b_l_is_shown .nil pass0 (pa_cons (pv 1) (pa_cons (pv 2) pa_nil)))))))))))), ?_⟩
    have hz5 : z.length ≤ 100000 := by omega
    have hm := dm.m
    walk_at "st"
    repeat walk_at "rd"
    refine r_new (by show 1 ≤ 100000; decide) (fun l1 H1 hl1 s1 e1 _ => ?_)
    repeat walk_at "rd"
    refine r_new (by show 1 ≤ 100000; decide) (fun t2 H2 ht2 s2 e2 _ => ?_)
    repeat walk_at "rd"
    refine r_dnew (fun d3 H3 hd3 s3 e3 _ => ?_)
    repeat walk_at "rd"
    refine r_new (by show 12 ≤ 100000; decide) (fun l4 H4 hl4 s4 e4 _ => ?_)
    repeat walk_at "rd"
    have rs : RS K H H p a m z n := ⟨hp, dm, tb, .refl⟩
    have rs := rs.same s1
    have n1 : l1 ≠ p := hp.neq hl1
    have n2 : t2 ≠ p := rs.hp.neq ht2
    have rs := rs.same s2
    have n3 : d3 ≠ p := rs.hp.neq hd3
    have rs := rs.same s3
    have n4 : l4 ≠ p := rs.hp.neq hl4
    have rs := rs.same s4
    refine use_pickL rs.hp e4 n4 (by simp) (by simp) (fun v H5 hv hp5 k5 => ?_)
    have odd : ∃ tn zr, Kn K H5 v tn zr ∧ (tn = "int" → ∃ m : Int, v = .int m ∧ ¬ (n ≤ m ∧ m ≤ z.length)) := by
      have q1 := dm.n0
      have q2 := dm.n1
      have q3 := ten29
      have f1 : H5 l1 = some (.lst [.int z.length]) := k5.at_ (s4 _ _ (s3 _ _ (s2 _ _ e1))) trivial (by simpa using n1)
      have f2 : H5 t2 = some (.tup [.int 0]) := k5.at_ (s4 _ _ (s3 _ _ e2)) trivial (by simpa using n2)
      have f3 : H5 d3 = some (.dK []) := k5.at_ (s4 _ _ e3) trivial (by simpa using n3)
      simp only [List.mem_cons, List.not_mem_nil, or_false] at hv
      rcases hv with rfl | rfl | rfl | rfl | rfl | rfl | rfl | rfl | rfl | rfl | rfl | rfl
      · exact ⟨_, _, kn_non, fun h => absurd h (by decide)⟩
      · exact ⟨_, _, kn_int (log_small (by omega)), fun _ => ⟨_, rfl, by omega⟩⟩
      · exact ⟨_, _, kn_int (log_small (by omega)), fun _ => ⟨_, rfl, by omega⟩⟩
      · exact ⟨_, _, kn_int (log_small (by omega)), fun _ => ⟨_, rfl, by omega⟩⟩
      · exact ⟨_, _, kn_bl _, fun h => absurd h (by decide)⟩
      · exact ⟨_, _, kn_bl _, fun h => absurd h (by decide)⟩
      · exact ⟨_, _, kn_str (asc_by (by decide +kernel)) (by decide +kernel), fun h => absurd h (by decide)⟩
      · obtain ⟨zr, k⟩ := kn_lstI (K := K) f1 (log_small (by omega))
        exact ⟨_, _, k, fun h => absurd h (by decide)⟩
      · obtain ⟨zr, k⟩ := kn_tupI (K := K) f2 (log_small (by decide))
        exact ⟨_, _, k, fun h => absurd h (by decide)⟩
      · exact ⟨_, _, kn_int log10, fun _ => ⟨_, rfl, by omega⟩⟩
      · exact ⟨_, _, kn_int log10n, fun _ => ⟨_, rfl, by omega⟩⟩
      · exact ⟨_, _, kn_dict f3, fun h => absurd h (by decide)⟩
    have rs := rs.go k5 hp5
    obtain ⟨tn, zr, kn, hin⟩ := odd
    clear hv
    repeat walk_at "rd"
    refine r_lam rs.tb (fun H6 k6 tb6 => ?_)
    intro H7 s7
    dsimp only
    have rs := (rs.lam k6).same s7
    have kn := (kn.pl k6.samP).same s7
    repeat walk_at "rd"
    refine dsk_meth rs.dm.d (by decide +kernel) (by decide +kernel) ?_
    repeat walk_at "rd"
    refine ⟨a, z, n, v, rfl, rs.dm.d, hz5, .inr ⟨tn, kn.ty, kn.k, hin, fun dd H8 hdd s8 e8 => ?_⟩⟩
    refine ⟨"InvalidLength", "length", dd, v, zr, by simp [cws], rfl, rfl, e8, kn.r.1.same s8, fun t9 H9 ht9 s9 e9 => ?_⟩
    have rs := (rs.same s8).same s9
    have kn := (kn.same s8).same s9
    repeat walk_at "rd"
    refine r_repr kn.r.1 ?_
    repeat walk_at "rd"
    refine r_new (by show 3 ≤ 100000; decide) (fun t10 H10 ht10 s10 e10 _ => ?_)
    repeat walk_at "rd"
    refine r_neDs (dp_told (s10 _ _ e9)) (dp_told e10) (shaped_told true (asc_by (by decide +kernel)) kn.r.2) ?_
    have rs := rs.same s10
    repeat walk_at "rd"
    clear kn hin ht9 s9 e9 ht10 s10 e10 hdd s8 e8 k6 s7 tb6 hp5 k5 e4 e3 e2 e1
    refine r_new (by show 1 ≤ 100000; decide) (fun l11 H11 hl11 s11 e11 _ => ?_)
    have n11 := rs.hp.neq hl11
    have rs := rs.same s11
    repeat walk_at "rd"
    refine r_new (by show 0 ≤ 100000; decide) (fun t12 H12 ht12 s12 e12 _ => ?_)
    have n12 := rs.hp.neq ht12
    have rs := rs.same s12
    repeat walk_at "rd"
    refine r_dnew (fun d13 H13 hd13 s13 e13 _ => ?_)
    have n13 := rs.hp.neq hd13
    have rs := rs.same s13
    repeat walk_at "rd"
    refine r_new (by show 0 ≤ 100000; decide) (fun l14 H14 hl14 s14 e14 _ => ?_)
    have n14 := rs.hp.neq hl14
    have rs := rs.same s14
    repeat walk_at "rd"
    refine r_new (by show 8 ≤ 100000; decide) (fun l15 H15 hl15 s15 e15 _ => ?_)
    have n15 := rs.hp.neq hl15
    have rs := rs.same s15
    repeat walk_at "rd"
    refine use_pickL rs.hp e15 n15 (by simp) (by simp) (fun w H16 hw hp16 k16 => ?_)
    have odd : ∃ tn zr, Kn K H16 w tn zr ∧ tn ≠ "str" := by
      have f1 : H16 l11 = some (.lst [.str "a"]) := k16.at_ (s15 _ _ (s14 _ _ (s13 _ _ (s12 _ _ e11)))) trivial (by simpa using n11)
      have f2 : H16 t12 = some (.tup []) := k16.at_ (s15 _ _ (s14 _ _ (s13 _ _ e12))) trivial (by simpa using n12)
      have f3 : H16 d13 = some (.dK []) := k16.at_ (s15 _ _ (s14 _ _ e13)) trivial (by simpa using n13)
      have f4 : H16 l14 = some (.lst []) := k16.at_ (s15 _ _ e14) trivial (by simpa using n14)
      simp only [List.mem_cons, List.not_mem_nil, or_false] at hw
      rcases hw with rfl | rfl | rfl | rfl | rfl | rfl | rfl | rfl
      · exact ⟨_, _, kn_non, by decide⟩
      · exact ⟨_, _, kn_int (log_small (by decide)), by decide⟩
      · exact ⟨_, _, kn_bl _, by decide⟩
      · obtain ⟨zr, k⟩ := kn_lstS (K := K) f1 (asc_by (by decide +kernel)) (by decide +kernel)
        exact ⟨_, _, k, by decide⟩
      · obtain ⟨zr, k⟩ := kn_tup0 (K := K) f2
        exact ⟨_, _, k, by decide⟩
      · exact ⟨_, _, kn_dict f3, by decide⟩
      · obtain ⟨zr, k⟩ := kn_lst0 (K := K) f4
        exact ⟨_, _, k, by decide⟩
      · exact ⟨_, _, kn_int (log_small (by decide)), by decide⟩
    have rs := rs.go k16 hp16
    obtain ⟨tn, zr, kn, hns⟩ := odd
    clear hw
    repeat walk_at "rd"
    refine r_lam rs.tb (fun H6 k6 tb6 => ?_)
    intro H7 s7
    dsimp only
    have rs := (rs.lam k6).same s7
    have kn := (kn.pl k6.samP).same s7
    repeat walk_at "rd"
    refine dsk_meth rs.dm.d (by decide +kernel) (by decide +kernel) ?_
    repeat walk_at "rd"
    refine ⟨a, z, n, w, rfl, rs.dm.d, .inr ⟨tn, kn.ty, kn.k, hns, fun dd H8 hdd s8 e8 => ?_⟩⟩
    refine ⟨"InvalidRecord", "record", dd, w, zr, by simp [cws], rfl, rfl, e8, kn.r.1.same s8, fun t9 H9 ht9 s9 e9 => ?_⟩
    have rs := (rs.same s8).same s9
    have kn := (kn.same s8).same s9
    repeat walk_at "rd"
    refine r_repr kn.r.1 ?_
    repeat walk_at "rd"
    refine r_new (by show 3 ≤ 100000; decide) (fun t10 H10 ht10 s10 e10 _ => ?_)
    repeat walk_at "rd"
    refine r_neDs (dp_told (s10 _ _ e9)) (dp_told e10) (shaped_told true (asc_by (by decide +kernel)) kn.r.2) ?_
    have rs := rs.same s10
    have kn := kn.same s10
    clear hdd e8 s8 ht9 s9 e9 ht10 s10 e10 k6 s7 tb6
    repeat walk_at "rd"
    refine r_lam rs.tb (fun H6 k6 tb6 => ?_)
    intro H7 s7
    dsimp only
    have rs := (rs.lam k6).same s7
    have kn := (kn.pl k6.samP).same s7
    repeat walk_at "rd"
    refine use_mkDX rfl ⟨tn, kn.ty, kn.k, hns, fun dd H8 hdd s8 e8 => ?_⟩
    refine ⟨"InvalidRecord", "record", dd, w, zr, by simp [cws], rfl, rfl, e8, kn.r.1.same s8, fun t9 H9 ht9 s9 e9 => ?_⟩
    have rs := (rs.same s8).same s9
    have kn := (kn.same s8).same s9
    repeat walk_at "rd"
    refine r_repr kn.r.1 ?_
    repeat walk_at "rd"
    refine r_new (by show 3 ≤ 100000; decide) (fun t10 H10 ht10 s10 e10 _ => ?_)
    repeat walk_at "rd"
    refine r_eqDs (dp_told (s10 _ _ e9)) (dp_told e10) (shaped_told true (asc_by (by decide +kernel)) kn.r.2) ?_
    have rs := rs.same s10
    repeat walk_at "rd"
    have u1 := dm.n1
    refine ⟨a, m, z, n, rfl, rs.dm.d, rs.dm.m, dm.asc, hz, dm.n0, by omega, fun H11 s11 => ?_⟩
    have rs := rs.same s11
    exact q H11 rs.hp rs.fr

end
/-- nothing but perhaps a table stands at d -/
def New (H : Hp) (d : Addr) : Prop := ∀ o, (∀ ps, o ≠ .tbl ps) → H d ≠ some o
theorem New.of {T : List (Addr × Str)} {S : List Addr} {H H' : Hp} {d : Addr} (k : LL.Fr T S H H') (hd : H' d = none) (nd : d ∉ S) : New H d := fun o no e => by
  have := k.kp d o nd no e
  rw [hd] at this
  cases this
theorem New.back {T : List (Addr × Str)} {S : List Addr} {H H' : Hp} {d : Addr} (k : LL.Fr T S H H') (hd : New H' d) (nd : d ∉ S) : New H d := fun o no e => hd o no (k.kp d o nd no e)
theorem Fr_new {T : List (Addr × Str)} {S : List Addr} {H H1 H2 : Hp} {d : Addr} (x : LL.Fr T S H H1) (n : New H d) (y : LL.Fr T (d :: S) H1 H2) : LL.Fr T S H H2 := ⟨fun b o hb nt e => y.kp b o (fun z => by
    rcases List.mem_cons.mp z with rfl | z
    · exact n o nt e
    · exact hb z) nt (x.kp b o hb nt e), fun t => y.tb (x.tb t)⟩
def sp_changed (K : PySem.W.Frag) : Sp := fun vs H Q _ => ∃ p a m z n, vs = [.ref p, .ref a, .ref m] ∧ PotAt H p ∧ DM K H a m z n ∧ z.length ≤ 900 ∧
  ∀ d' m' z' n' t H', PotAt H' p → LL.Fr (Tb K) [p, a] H H' → H' t = some (.tup [.ref d', .ref m', .bl true]) → DM K H' d' m' z' n' → z'.length ≤ z.length + 9 → (d' = a ∨ New H d') → Q (.ref t) H'
def sp_left (K : PySem.W.Frag) : Sp := fun vs H Q _ => ∃ p a m z n, vs = [.ref p, .ref a, .ref m] ∧ DM K H a m z n ∧ z.length ≤ 990 ∧ ∀ H', Same H H' → Q (.bl true) H'
theorem shaped_dm {z : Str} {n : Int} (h : Asc z) : SeqAt.shaped (.list [.str z, .int n]) = true := by
  simp [SeqAt.shaped, PyData.canLay0, PyData.canLayAll0, PyData.depth, PyData.depthAll, h.strOk]
theorem dp_dm {K : PySem.W.Frag} {H : Hp} {m : Addr} {z : Str} {n : Int} (h : H m = some (.lst [.str z, .int n])) : Dp K H (.ref m) (.list [.str z, .int n]) := .lst (.inl (.inl h)) (.cons (.str z) (.cons (.int n) .nil))
theorem app_ne {z y : Str} (h : 0 < y.length) : z ++ y ≠ z := fun e => by
  have := congrArg Str.length e
  rw [PySem.Str.length_append] at this
  omega
theorem q_eqL {K : PySem.W.Frag} {H : Hp} {l : Addr} {xs : List V} {A : Addr → List V → Prop} (h : H l = some (.lst xs)) (q : A l xs) : ∃ p ys, [V.ref l] = [V.ref p] ∧ (SqL K H p ys ∨ SqT K H p ys) ∧ A p ys := ⟨l, xs, rfl, .inl (.inl (.inl h)), q⟩
theorem q_listOf {K : PySem.W.Frag} {H : Hp} {l : Addr} {xs : List V} {R : Addr → Hp → Prop} (h : H l = some (.lst xs)) (q : ∀ p H', H p = none → Same H H' → H' p = some (.lst xs) → (∀ b, b ≠ p → H' b = H b) → R p H') :
    ∃ p ys, [V.ref l] = [V.ref p] ∧ (SqL K H p ys ∨ SqT K H p ys) ∧ ∀ l', H l' = none → R l' (upd H l' (.lst ys)) := ⟨l, xs, rfl, .inl (.inl (.inl h)), fun p hp => q p _ hp (same_upd hp) upd_same fun b hb => upd_ne hb⟩
theorem DiskAt.nel {K : PySem.W.Frag} {H : Hp} {a l : Addr} {z : Str} {n : Int} {xs : List V} (h : DiskAt K H a z n) (e : H l = some (.lst xs)) : l ≠ a := by
  rintro rfl
  obtain ⟨dx, z1⟩ := h
  rw [e] at z1
  cases z1
theorem DiskAt.set {K : PySem.W.Frag} {H H' : Hp} {a : Addr} {z : Str} {n : Int} {S : List Addr} (h : DiskAt K H a z n) (ha : a ∈ S) (ne : ∀ b, b ≠ a → H' b = H b) : LL.Fr (Tb K) S H H' := by
  obtain ⟨dx, z1⟩ := h
  exact .set z1 trivial ha ne

section
variable {P : Program} {w : World} {K : PySem.W.Frag} {mg : Str → Option Value} {base : Heap}
theorem sc_l_changed : FnScope ["_law_pot_here", "_law_disk", "_law_model", "_law_way", "_law_text_here", "_law_told", "_law_found", "_law_length", "_law_kept", "_law_other", "_law_is_right"] ["_law_pot_here", "_law_disk", "_law_model"] (defScope s_l_changed) := ⟨rfl, rfl, rfl, by decide +kernel, rfl, by decide +kernel, by decide +kernel⟩
theorem ok_l_changed (T : Tx K mg) : FnG P w K mg base CX0 true 8 (He.ga K "_law_changed") T.fd_l_changed ["_law_pot_here", "_law_disk", "_law_model"] (sp_changed K) := by
  refine funG T.F_l_changed sc_l_changed (fun vs H Q E h => ?_) (fun cdv A outer s H vs Q E hr hg h => ?_)
  · obtain ⟨p, a, m, z, n, e, _⟩ := h; rw [e]; rfl
  · obtain ⟨p, a, m, z, n, rfl, hp, dm, hz, q⟩ := h
    refine ⟨_, (pss_cons (ps_par (i := 3) (j := 4) (by rfl) sc_l_changed.nd rfl rfl (by decide) rfl rfl (pa_cons (pg_call (ok_l_take T) (hr.mono (by decide)) hg (by rfl) T.g_l_take T.F_l_take.kp T.b_l_take .nil pass0 (pa_cons (pv 0) (pa_cons pe_int pa_nil))) (pa_cons (pg_call (ok_l_text T) (hr.mono (by decide)) hg (by rfl) T.g_l_text T.F_l_text.kp T.b_l_text .nil pass0 (pa_cons (pv 0) pa_nil)) pa_nil)) (by rfl))
    (pss_cons (ps_if (pt_cmpR op_lt (pv 3) pe_int (nomark _)) (pss_cons (ps_set (i := 5) sc_l_changed.nd rfl (by first | exact Or.inl rfl | exact Or.inr rfl) (pg_meth (pv 1) T.c_Disk T.mt_Disk_append (ok_Disk_append T) (hr.mono (by decide)) hg T.b_Disk_append .nil passN (pa_cons (pv 4) pa_nil)))
    (pss_cons (ps_set (i := 6) sc_l_changed.nd rfl (by first | exact Or.inl rfl | exact Or.inr rfl) (pe_lst (pa_cons (pe_op op_add_str (pe_ix (ix_listK (K' := K)) (pv 2) pe_int (fun _ _ => rfl)) (pv 4)) (pa_cons (pe_ix (ix_listK (K' := K)) (pv 2) pe_int (fun _ _ => rfl)) pa_nil))))
    (pss_one (ps_ret (pe_tup (pa_cons (pv 1) (pa_cons (pv 6) (pa_cons (pe_cmpR op_eq (pv 5) (pe_callB call_len (by rfl) T.m_len (by decide +kernel) (pa_cons (pe_ix (ix_listK (K' := K)) (pv 6) pe_int (fun _ _ => rfl)) pa_nil)) (nomark _)) pa_nil)))))))) pss_nil)
    (pss_cons (ps_if (pt_cmpR op_eq (pv 3) pe_int (nomark _)) (pss_one (ps_ret (pe_tup (pa_cons (pv 1) (pa_cons (pe_lst (pa_cons (pe_ix (ix_listK (K' := K)) (pv 2) pe_int (fun _ _ => rfl)) (pa_cons (pe_callB call_len (by rfl) T.m_len (by decide +kernel) (pa_cons (pe_ix (ix_listK (K' := K)) (pv 2) pe_int (fun _ _ => rfl)) pa_nil)) pa_nil))) (pa_cons (pe_cmpR op_eq (pg_meth0 (pv 1) T.c_Disk T.mt_Disk_sync (ok_Disk_sync T) (hr.mono (by decide)) hg T.b_Disk_sync .nil pass0) (pe_callB call_len (by rfl) T.m_len (by decide +kernel) (pa_cons (pe_ix (ix_listK (K' := K)) (pv 2) pe_int (fun _ _ => rfl)) pa_nil)) (nomark _)) pa_nil)))))) pss_nil)
    (pss_cons (ps_if (pt_cmpR op_eq (pv 3) pe_int (nomark _)) (pss_cons (ps_set (i := 7) sc_l_changed.nd rfl (by first | exact Or.inl rfl | exact Or.inr rfl) (pe_op op_add (pe_ix (ix_listK (K' := K)) (pv 2) pe_int (fun _ _ => rfl)) (pg_call (ok_l_take T) (hr.mono (by decide)) hg (by rfl) T.g_l_take T.F_l_take.kp T.b_l_take .nil pass0 (pa_cons (pv 0) (pa_cons (pe_op op_add (pe_op op_sub (pe_callB call_len (by rfl) T.m_len (by decide +kernel) (pa_cons (pe_ix (ix_listK (K' := K)) (pv 2) pe_int (fun _ _ => rfl)) pa_nil)) (pe_ix (ix_listK (K' := K)) (pv 2) pe_int (fun _ _ => rfl))) pe_int) pa_nil)))))
    (pss_cons (ps_par (i := 6) (j := 8) (by rfl) sc_l_changed.nd rfl rfl (by decide) rfl rfl (pa_cons (pg_meth (pv 1) T.c_Disk T.mt_Disk_stopped (ok_Disk_stopped T) (hr.mono (by decide)) hg T.b_Disk_stopped .nil passN (pa_cons (pv 7) pa_nil)) (pa_cons (pe_callTy call_list_of (by rfl) T.m_list (by decide +kernel) (pa_cons (pv 2) pa_nil)) pa_nil)) (by rfl))
    (pss_cons (ps_expr (pg_meth (pv 1) T.c_Disk T.mt_Disk_append (ok_Disk_append T) (hr.mono (by decide)) hg T.b_Disk_append .nil passN (pa_cons pe_str pa_nil)))
    (pss_cons (ps_expr (pg_meth0 (pv 1) T.c_Disk T.mt_Disk_sync (ok_Disk_sync T) (hr.mono (by decide)) hg T.b_Disk_sync .nil pass0))
    (pss_one (ps_ret (pe_tup (pa_cons (pv 6) (pa_cons (pe_lst (pa_cons (pe_slice sl_str (pe_ix (ix_listK (K' := K)) (pv 2) pe_int (fun _ _ => rfl)) po_none (po_some (pv 7))) (pa_cons (pv 7) pa_nil))) (pa_cons (pe_cmpR (op_eqD hr.units) (pv 8) (pv 2) (nomark _)) pa_nil)))))))))) pss_nil)
    (pss_cons (ps_set (i := 6) sc_l_changed.nd rfl (by first | exact Or.inl rfl | exact Or.inr rfl) (pg_meth0 (pv 1) T.c_Disk T.mt_Disk_clone (ok_Disk_clone T) (hr.mono (by decide)) hg T.b_Disk_clone .nil pass0))
    (pss_cons (ps_set (i := 9) sc_l_changed.nd rfl (by first | exact Or.inl rfl | exact Or.inr rfl) (pe_ix (ix_listK (K' := K)) (pe_lst (pa_cons (pv 6) (pa_cons (pv 1) pa_nil))) (pg_call (ok_l_take T) (hr.mono (by decide)) hg (by rfl) T.g_l_take T.F_l_take.kp T.b_l_take .nil pass0 (pa_cons (pv 0) (pa_cons pe_int pa_nil))) (fun _ _ => rfl)))
    (pss_cons (ps_set (i := 10) sc_l_changed.nd rfl (by first | exact Or.inl rfl | exact Or.inr rfl) (pe_and (pe_cmpR (op_eqOwn T.o_Disk_eq (ok_DiskU_eqU T) (hr.mono (by decide)) hg T.b_DiskU_eqU pass0) (pv 6) (pv 1) (nomark _)) (pe_one (pg_call (ok_l_is_shown T) (hr.mono (by decide)) hg (by rfl) T.g_l_is_shown T.F_l_is_shown.kp T.b_l_is_shown .nil pass0 (pa_cons (pv 6) (pa_cons (pv 2) pa_nil))))))
    (pss_cons (ps_expr (pg_meth (pv 9) T.c_Disk T.mt_Disk_append (ok_Disk_append T) (hr.mono (by decide)) hg T.b_Disk_append .nil passN (pa_cons (pe_op op_add_str pe_str (pv 4)) pa_nil)))
    (pss_cons (ps_if (pt_cmpR op_gt (pe_callB call_len (by rfl) T.m_len (by decide +kernel) (pa_cons (pv 4) pa_nil)) pe_int (nomark _)) (pss_one (ps_expr (pg_meth0 (pv 9) T.c_Disk T.mt_Disk_sync (ok_Disk_sync T) (hr.mono (by decide)) hg T.b_Disk_sync .nil pass0))) pss_nil)
    (pss_one (ps_ret (pe_tup (pa_cons (pe_ifExp (pt_cmpR (op_eqOwn T.o_Disk_eq (ok_DiskU_eqU T) (hr.mono (by decide)) hg T.b_DiskU_eqU pass0) (pv 9) (pv 6) (nomark _)) (pv 1) (pv 6)) (pa_cons (pe_callTy call_list_of (by rfl) T.m_list (by decide +kernel) (pa_cons (pv 2) pa_nil)) (pa_cons (pe_and (pv 10) (pe_one (pe_cmpR (op_neOwn T.o_Disk_ne (ok_DiskU_eqU T) (hr.mono (by decide)) hg T.b_DiskU_eqU pass0) (pv 6) (pv 1) (nomark _)))) pa_nil))))))))))))))), ?_⟩
    have u0 := dm.n0
    have u1 := dm.n1
    have hz5 : z.length ≤ 100000 := by omega
    obtain ⟨nap, nmp⟩ := dm.ne hp
    walk_at "st"
    repeat walk_at "rd"
    refine use_take hp (by omega) (by omega) (fun way H1 w0 w1 hp1 k1 => ?_)
    repeat walk_at "rd"
    refine ⟨p, rfl, hp1, fun tx H2 htl hta hp2 k2 => ?_⟩
    have dm2 := (dm.fr k1 (by simpa using nap) (by simpa using nmp)).fr k2 (by simpa using nap) (by simpa using nmp)
    have k2 := (k1.trans k2).mono (S' := [p, a]) (by simp)
    have hm2 := dm2.m
    have hd2 := dm2.d
    repeat walk_at "rd"
    refine r_dec (fun e => ?_) (fun e => ?_)
    · repeat walk_at "rd"
      refine dsk_meth dm2.d (by decide +kernel) (by decide +kernel) ?_
      repeat walk_at "rd"
      refine ⟨a, z, n, _, rfl, dm2.d, .inl ⟨tx, rfl, by omega, fun H3 ne3 hd3 => ?_⟩⟩
      have nma : m ≠ a := by
        rintro rfl
        obtain ⟨dx, z1⟩ := dm2.d
        rw [hm2] at z1
        cases z1
      have hm3 : H3 m = some (.lst [.str z, .int n]) := by rw [ne3 m nma]; exact hm2
      have k3 : LL.Fr (Tb K) [p, a] H H3 := by
        obtain ⟨dx, z1⟩ := dm2.d
        exact k2.trans (.set z1 trivial (by simp) ne3)
      have hp3 := hp2.off nap ne3
      repeat walk_at "rd"
      refine q_addS (by rw [lnL]; omega) ?_
      repeat walk_at "rd"
      refine r_new (by show 2 ≤ 100000; decide) (fun l4 H4 hl4 s4 e4 _ => ?_)
      have hl5 : (z ++ tx).length ≤ 100000 := by rw [PySem.Str.length_append]; omega
      repeat walk_at "rd"
      rw [decide_eq_true rfl]
      refine r_new (by show 3 ≤ 100000; decide) (fun t5 H5 ht5 s5 e5 _ => ?_)
      refine q a l4 (z ++ tx) n t5 H5 ((hp3.same s4).same s5) ((k3.trans (.same s4)).trans (.same s5)) e5 ⟨(hd3.same s4).same s5, s5 _ _ e4, dm.asc.app hta, u0, ?_⟩ ?_ (.inl rfl)
      · rw [PySem.Str.length_append]; omega
      · rw [PySem.Str.length_append]; omega
    · repeat walk_at "rd"
      refine r_dec (fun e2 => ?_) (fun e2 => ?_)
      · repeat walk_at "rd"
        refine r_new (by show 2 ≤ 100000; decide) (fun l4 H4 hl4 s4 e4 _ => ?_)
        have hm4 := s4 _ _ hm2
        have hd4 := dm2.d.same s4
        repeat walk_at "rd"
        refine dsk_meth hd4 (by decide +kernel) (by decide +kernel) ?_
        repeat walk_at "rd"
        refine ⟨a, z, n, rfl, hd4, hz5, fun H5 ne5 hd5 => ?_⟩
        have nla : l4 ≠ a := by
          rintro rfl
          obtain ⟨dx, z1⟩ := hd4
          rw [e4] at z1
          cases z1
        have nma : m ≠ a := by
          rintro rfl
          obtain ⟨dx, z1⟩ := hd4
          rw [hm4] at z1
          cases z1
        have hm5 : H5 m = some (.lst [.str z, .int n]) := by rw [ne5 m nma]; exact hm4
        have e5 : H5 l4 = some (.lst [.str z, .int z.length]) := by rw [ne5 l4 nla]; exact e4
        have k5 : LL.Fr (Tb K) [p, a] H H5 := by
          obtain ⟨dx, z1⟩ := hd4
          exact (k2.trans (.same s4)).trans (.set z1 trivial (by simp) ne5)
        have hp5 := (hp2.same s4).off nap ne5
        repeat walk_at "rd"
        rw [decide_eq_true rfl]
        refine r_new (by show 3 ≤ 100000; decide) (fun t6 H6 ht6 s6 e6 _ => ?_)
        exact q a l4 z z.length t6 H6 (hp5.same s6) (k5.trans (.same s6)) e6 ⟨hd5.same s6, s6 _ _ e5, dm.asc, by omega, by omega⟩ (by omega) (.inl rfl)
      · repeat walk_at "rd"
        refine r_dec (fun e3 => ?_) (fun e3 => ?_)
        · repeat walk_at "rd"
          refine use_take hp2 (by omega) (by omega) (fun d3 H3 d30 d31 hp3 k3 => ?_)
          have dm3 := dm2.fr k3 (by simpa using nap) (by simpa using nmp)
          have hm3 := dm3.m
          have k3 := k2.trans (k3.mono (S' := [p, a]) (by simp))
          have hc := len_to z (m := n + d3) (by omega) (by omega)
          repeat walk_at "rd"
          refine dsk_meth dm3.d (by decide +kernel) (by decide +kernel) ?_
          repeat walk_at "rd"
          refine ⟨a, z, n, _, rfl, dm3.d, hz5, .inl ⟨n + d3, rfl, by omega, by omega, by omega, fun f4 H4 hf4 s4 hd4 => ?_⟩⟩
          have dm4 := dm3.same s4
          have hm4 := dm4.m
          have hp4 := hp3.same s4
          repeat walk_at "rd"
          refine fun l5 hl5 => ?_
          generalize e5' : upd H4 l5 (.lst [.str z, .int n]) = H5
          have s5 : Same H4 H5 := by rw [← e5']; exact same_upd hl5
          have e5 : H5 l5 = some (.lst [.str z, .int n]) := by rw [← e5']; exact upd_same
          have dm5 := dm4.same s5
          have hd5 := hd4.same s5
          have hp5 := hp4.same s5
          have nfa : f4 ≠ a := dm3.d.ne hf4 |>.symm
          repeat walk_at "rd"
          refine dsk_meth dm5.d (by decide +kernel) (by decide +kernel) ?_
          repeat walk_at "rd"
          refine ⟨a, z, n, _, rfl, dm5.d, .inl ⟨_, rfl, (by have : (Str.ofString "gone").length = 4 := by decide +kernel
                                                            omega), fun H6 ne6 hd6 => ?_⟩⟩
          have k6 := ((k3.trans (.same s4)).trans (.same s5)).trans (dm5.d.set (S := [p, a]) (by simp) ne6)
          have e6 : H6 l5 = some (.lst [.str z, .int n]) := by rw [ne6 l5 (dm5.d.nel e5)]; exact e5
          have hm6 : H6 m = some (.lst [.str z, .int n]) := by rw [ne6 m (dm5.d.nel dm5.m)]; exact dm5.m
          have hf6 := hd5.off ne6 nfa
          have hp6 := hp5.off nap ne6
          repeat walk_at "rd"
          refine dsk_meth hd6 (by decide +kernel) (by decide +kernel) ?_
          repeat walk_at "rd"
          refine ⟨a, _, n, rfl, hd6, ?_, fun H7 ne7 hd7 => ?_⟩
          · rw [PySem.Str.length_append]
            have : (Str.ofString "gone").length = 4 := by decide +kernel
            omega
          have k7 := k6.trans (hd6.set (S := [p, a]) (by simp) ne7)
          have e7 : H7 l5 = some (.lst [.str z, .int n]) := by rw [ne7 l5 (dm5.d.nel e5)]; exact e6
          have hm7 : H7 m = some (.lst [.str z, .int n]) := by rw [ne7 m (dm5.d.nel dm5.m)]; exact hm6
          have hf7 := hf6.off ne7 nfa
          have hp7 := hp6.off nap ne7
          repeat walk_at "rd"
          refine r_new (by show 2 ≤ 100000; decide) (fun l8 H8 hl8 s8 e8 _ => ?_)
          repeat walk_at "rd"
          refine r_eqDs (dp_dm (s8 _ _ e7)) (dp_dm (s8 _ _ hm7)) (shaped_dm dm.asc) ?_
          repeat walk_at "rd"
          refine r_new (by show 3 ≤ 100000; decide) (fun t9 H9 ht9 s9 e9 _ => ?_)
          rw [hc] at hf7
          exact q f4 l8 (cutS z none (some (n + d3))) (n + d3) t9 H9 ((hp7.same s8).same s9) ((k7.trans (.same s8)).trans (.same s9)) e9 ⟨(hf7.same s8).same s9, s9 _ _ e8, asc_to dm.asc (by omega) (by omega), by omega, by omega⟩ (by omega) (.inr (New.of k3 hf4 (by simpa using And.intro (hp3.neq hf4) nfa)))
        · repeat walk_at "rd"
          refine dsk_meth dm2.d (by decide +kernel) (by decide +kernel) ?_
          repeat walk_at "rd"
          refine ⟨a, z, n, rfl, dm2.d, hz5, u0, fun f3 H3 hf3 s3 hd3 => ?_⟩
          have dm3 := dm2.same s3
          have hp3 := hp2.same s3
          have nfa : f3 ≠ a := dm2.d.ne hf3 |>.symm
          have nfp : f3 ≠ p := hp2.neq hf3
          have nf : New H f3 := New.of k2 hf3 (by simpa using And.intro nfp nfa)
          repeat walk_at "rd"
          refine r_new (by show 2 ≤ 100000; decide) (fun l4 H4 hl4 s4 e4 _ => ?_)
          have dm4 := dm3.same s4
          have hp4 := hp3.same s4
          have hd4 := hd3.same s4
          have nl4 := hp3.neq hl4
          repeat walk_at "rd"
          refine use_take hp4 (by omega) (by omega) (fun d5 H5 d50 d51 hp5 k5 => ?_)
          have dm5 := dm4.fr k5 (by simpa using nap) (by simpa using nmp)
          have hd5 := hd4.fr k5 (by simpa using nfp)
          have e5 : H5 l4 = some (.lst [.ref f3, .ref a]) := k5.at_ e4 trivial (by simpa using nl4)
          have k5p := k5
          have k5 := ((k2.trans (.same s3)).trans (.same s4)).trans (k5.mono (S' := [p, a]) (by simp))
          obtain ⟨o, r, ho, hor⟩ : ∃ o r, atI [V.ref f3, V.ref a] d5 = some (.ref o) ∧ ((o = f3 ∧ r = a) ∨ (o = a ∧ r = f3)) := by
            obtain rfl | rfl : d5 = 0 ∨ d5 = 1 := by omega
            · exact ⟨f3, a, atI_nat (j := 0) rfl, .inl ⟨rfl, rfl⟩⟩
            · exact ⟨a, f3, atI_nat (j := 1) rfl, .inr ⟨rfl, rfl⟩⟩
          refine r_ixL (.inl (.inl e5)) ho ?_
          have dm5d := dm5.d
          repeat walk_at "rd"
          refine r_opOwn hd5.ins (.inl ⟨a, rfl, dm5.d.ins⟩) (.inl ⟨f3, a, z, n, z, n, rfl, hd5, dm5.d, ?_⟩)
          rw [decide_eq_true (And.intro rfl rfl)]
          repeat walk_at "rd"
          refine ⟨f3, m, z, n, rfl, hd5, dm5.m, dm.asc, by omega, u0, by omega, fun H6 s6 => ?_⟩
          have ho6 : DiskAt K H6 o z n := by rcases hor with ⟨rfl, _⟩ | ⟨rfl, _⟩ <;> first | exact hd5.same s6 | exact dm5.d.same s6
          have hr6 : DiskAt K H6 r z n := by rcases hor with ⟨_, rfl⟩ | ⟨_, rfl⟩ <;> first | exact hd5.same s6 | exact dm5.d.same s6
          have nor : r ≠ o := by rcases hor with ⟨rfl, rfl⟩ | ⟨rfl, rfl⟩ <;> first | exact nfa | exact nfa.symm
          have nop : o ≠ p := by rcases hor with ⟨rfl, _⟩ | ⟨rfl, _⟩ <;> assumption
          have hm6 := s6 _ _ dm5.m
          have hp6 := hp5.same s6
          have tx5 : tx.length ≤ 100000 := by omega
          repeat walk_at "rd"
          refine dsk_meth ho6 (by decide +kernel) (by decide +kernel) ?_
          repeat walk_at "rd"
          have lx : (Str.ofString "x").length = 1 := by decide +kernel
          refine q_addS (by rw [lnL, lx]; omega) ?_
          repeat walk_at "rd"
          refine ⟨o, z, n, _, rfl, ho6, .inl ⟨_, rfl, (by rw [PySem.Str.length_append, lx]; omega), fun H7 ne7 ho7 => ?_⟩⟩
          have hr7 := hr6.off ne7 nor
          have hm7 : H7 m = some (.lst [.str z, .int n]) := by rw [ne7 m (ho6.nel hm6)]; exact hm6
          have hp7 := hp6.off nop ne7
          have yne : z ++ (Str.ofString "x" ++ tx) ≠ z := app_ne (by rw [PySem.Str.length_append, lx]; omega)
          have yl : (z ++ (Str.ofString "x" ++ tx)).length ≤ 100000 := by rw [PySem.Str.length_append, PySem.Str.length_append, lx]; omega
          generalize z ++ (Str.ofString "x" ++ tx) = y at *
          have fin : ∀ n7 H8, (∀ b, b ≠ o → H8 b = H7 b) → DiskAt K H8 o y n7 → ∃ k8 : True, DiskAt K H8 r z n ∧ H8 m = some (.lst [.str z, .int n]) ∧ PotAt H8 p := by
            intro n7 H8 ne8 ho8
            exact ⟨trivial, hr7.off ne8 nor, by rw [ne8 m (ho6.nel hm6)]; exact hm7, hp7.off nop ne8⟩
          have frO : ∀ n7 H8, (∀ b, b ≠ o → H8 b = H7 b) → DiskAt K H8 o y n7 → LL.Fr (Tb K) [p, a] H H8 := by
            intro n7 H8 ne8 ho8
            rcases hor with ⟨rfl, rfl⟩ | ⟨rfl, rfl⟩
            · refine Fr.step k2 hf3 ?_
              have f5 : LL.Fr (Tb K) [o, p, r] H2 H5 := ((LL.Fr.same s3).trans (.same s4)).trans (k5p.mono (by simp))
              exact ((f5.trans (.same s6)).trans (ho6.set (by simp) ne7)).trans (ho7.set (by simp) ne8)
            · exact ((k5.trans (.same s6)).trans (ho6.set (by simp) ne7)).trans (ho7.set (by simp) ne8)
          dsimp only
          repeat walk_at "rd"
          refine r_dec (fun e6 => ?_) (fun e6 => ?_)
          · repeat walk_at "rd"
            refine dsk_meth ho7 (by decide +kernel) (by decide +kernel) ?_
            repeat walk_at "rd"
            refine ⟨o, y, n, rfl, ho7, yl, fun H8 ne8 ho8 => ?_⟩
            dsimp only
            obtain ⟨_, hr8, hm8, hp8⟩ := fin _ _ ne8 ho8
            have k8 := frO _ _ ne8 ho8
            repeat walk_at "rd"
            have hf8 : ∃ z1 n1, DiskAt K H8 f3 z1 n1 ∧ ∃ z2 n2, DiskAt K H8 a z2 n2 ∧ z1 ≠ z2 := by
              rcases hor with ⟨rfl, rfl⟩ | ⟨rfl, rfl⟩
              · exact ⟨_, _, ho8, _, _, hr8, yne⟩
              · exact ⟨_, _, hr8, _, _, ho8, yne.symm⟩
            obtain ⟨z1, n1, hf8, z2, n2, ha8, nez⟩ := hf8
            refine r_opOwn ho8.ins (.inl ⟨f3, rfl, hf8.ins⟩) (.inl ⟨o, f3, y, (y.length : Int), z1, n1, rfl, ho8, hf8, ?_⟩)
            have pick : if decide (y = z1 ∧ (y.length : Int) = n1) = true then r = a else r = f3 := by
              rcases hor with ⟨rfl, rfl⟩ | ⟨rfl, rfl⟩
              · obtain ⟨dx, q1⟩ := ho8
                obtain ⟨dx2, q2⟩ := hf8
                rw [q1] at q2
                have q3 : dskF y (y.length : Int) = dskF z1 n1 := by injection (Option.some.inj q2)
                have c1 := dskF_c y (y.length : Int)
                have c2 := dskF_s y (y.length : Int)
                rw [q3, dskF_c] at c1
                rw [q3, dskF_s] at c2
                have w1 : y = z1 := by injection (Option.some.inj c1) with h; exact h.symm
                have w2 : (y.length : Int) = n1 := by injection (Option.some.inj c2) with h; exact h.symm
                rw [decide_eq_true (And.intro w1 w2), if_pos rfl]
              · obtain ⟨dx, q1⟩ := hr8
                obtain ⟨dx2, q2⟩ := hf8
                rw [q1] at q2
                have q3 : dskF z n = dskF z1 n1 := by injection (Option.some.inj q2)
                have c1 := dskF_c z n
                rw [q3, dskF_c] at c1
                have w1 : z1 = z := by injection (Option.some.inj c1)
                rw [decide_eq_false (fun h => yne (h.1.trans w1)), if_neg Bool.false_ne_true]
            refine r_blV ?_
            revert pick
            generalize decide (y = z1 ∧ (y.length : Int) = n1) = bb
            intro pick
            have goal : ∀ x, x = r → tCons (tCB (fun xs H Q => ∃ p ys, xs = [V.ref p] ∧ (SqL K H p ys ∨ SqT K H p ys) ∧ ∀ (l : Addr), H l = none → Q (V.ref l) (upd H l (.lst ys))) (tCons (tVar 2) tNil))
                (tCons (tAndV (tVar 10) (tOp (rNeOwn (He.ga K "Disk") ["list"] (sp_deq K) E0) (tVar 6) (tVar 1))) tNil) [some (V.ref p), some (V.ref a), some (V.ref m), some (V.int way), some (V.str tx), none, some (V.ref f3), none, none, some (V.ref o), some (V.bl true)] H8
                (fun xs H2 => (V.ref x :: xs).length ≤ sizeLine ∧ ∀ p H2_1, H2 p = none → Same H2 H2_1 → H2_1 p = some (.tup (V.ref x :: xs)) → (∀ b, b ≠ p → H2_1 b = H2 b) → Q (.ref p) H2_1) := by
              rintro x rfl
              repeat walk_at "rd"
              refine fun l9 hl9 => ?_
              generalize e9' : upd H8 l9 (.lst [.str z, .int n]) = H9
              have s9 : Same H8 H9 := by rw [← e9']; exact same_upd hl9
              have e9 : H9 l9 = some (.lst [.str z, .int n]) := by rw [← e9']; exact upd_same
              repeat walk_at "rd"
              refine r_neOwn (hf8.same s9).ins (.inl ⟨a, rfl, (ha8.same s9).ins⟩) (.inl ⟨f3, a, z1, n1, z2, n2, rfl, hf8.same s9, ha8.same s9, ⟨_, rfl, ?_⟩⟩)
              rw [decide_eq_false (fun h : z1 = z2 ∧ n1 = n2 => nez h.1)]
              repeat walk_at "rd"
              refine r_new (by show 3 ≤ 100000; decide) (fun t10 H10 ht10 s10 e10 _ => ?_)
              refine q x l9 z n t10 H10 ((hp8.same s9).same s10) ((k8.trans (.same s9)).trans (.same s10)) e10 ⟨(hr8.same s9).same s10, s10 _ _ e9, dm.asc, u0, u1⟩ (by omega) ?_
              rcases hor with ⟨rfl, rfl⟩ | ⟨rfl, rfl⟩
              · exact .inl rfl
              · exact .inr nf
            cases bb with
            | true =>
              rw [if_pos rfl]
              rw [if_pos rfl] at pick
              exact r_v1 (goal a pick.symm)
            | false =>
              rw [if_neg Bool.false_ne_true]
              rw [if_neg Bool.false_ne_true] at pick
              exact r_v6 (goal f3 pick.symm)
          · obtain ⟨H8, eH8⟩ : ∃ H8, H8 = H7 := ⟨_, rfl⟩
            rw [← eH8] at ho7 ⊢
            have ho8 : DiskAt K H8 o y n := ho7
            have ne8 : ∀ b, b ≠ o → H8 b = H7 b := fun b _ => by rw [eH8]
            obtain ⟨_, hr8, hm8, hp8⟩ := fin _ _ ne8 ho8
            have k8 := frO _ _ ne8 ho8
            repeat walk_at "rd"
            have hf8 : ∃ z1 n1, DiskAt K H8 f3 z1 n1 ∧ ∃ z2 n2, DiskAt K H8 a z2 n2 ∧ z1 ≠ z2 := by
              rcases hor with ⟨rfl, rfl⟩ | ⟨rfl, rfl⟩
              · exact ⟨_, _, ho8, _, _, hr8, yne⟩
              · exact ⟨_, _, hr8, _, _, ho8, yne.symm⟩
            obtain ⟨z1, n1, hf8, z2, n2, ha8, nez⟩ := hf8
            refine r_opOwn ho8.ins (.inl ⟨f3, rfl, hf8.ins⟩) (.inl ⟨o, f3, y, n, z1, n1, rfl, ho8, hf8, ?_⟩)
            have pick : if decide (y = z1 ∧ n = n1) = true then r = a else r = f3 := by
              rcases hor with ⟨rfl, rfl⟩ | ⟨rfl, rfl⟩
              · obtain ⟨dx, q1⟩ := ho8
                obtain ⟨dx2, q2⟩ := hf8
                rw [q1] at q2
                have q3 : dskF y n = dskF z1 n1 := by injection (Option.some.inj q2)
                have c1 := dskF_c y n
                have c2 := dskF_s y n
                rw [q3, dskF_c] at c1
                rw [q3, dskF_s] at c2
                have w1 : y = z1 := by injection (Option.some.inj c1) with h; exact h.symm
                have w2 : n = n1 := by injection (Option.some.inj c2) with h; exact h.symm
                rw [decide_eq_true (And.intro w1 w2), if_pos rfl]
              · obtain ⟨dx, q1⟩ := hr8
                obtain ⟨dx2, q2⟩ := hf8
                rw [q1] at q2
                have q3 : dskF z n = dskF z1 n1 := by injection (Option.some.inj q2)
                have c1 := dskF_c z n
                rw [q3, dskF_c] at c1
                have w1 : z1 = z := by injection (Option.some.inj c1)
                rw [decide_eq_false (fun h => yne (h.1.trans w1)), if_neg Bool.false_ne_true]
            refine r_blV ?_
            revert pick
            generalize decide (y = z1 ∧ n = n1) = bb
            intro pick
            have goal : ∀ x, x = r → tCons (tCB (fun xs H Q => ∃ p ys, xs = [V.ref p] ∧ (SqL K H p ys ∨ SqT K H p ys) ∧ ∀ (l : Addr), H l = none → Q (V.ref l) (upd H l (.lst ys))) (tCons (tVar 2) tNil))
                (tCons (tAndV (tVar 10) (tOp (rNeOwn (He.ga K "Disk") ["list"] (sp_deq K) E0) (tVar 6) (tVar 1))) tNil) [some (V.ref p), some (V.ref a), some (V.ref m), some (V.int way), some (V.str tx), none, some (V.ref f3), none, none, some (V.ref o), some (V.bl true)] H8
                (fun xs H2 => (V.ref x :: xs).length ≤ sizeLine ∧ ∀ p H2_1, H2 p = none → Same H2 H2_1 → H2_1 p = some (.tup (V.ref x :: xs)) → (∀ b, b ≠ p → H2_1 b = H2 b) → Q (.ref p) H2_1) := by
              rintro x rfl
              repeat walk_at "rd"
              refine fun l9 hl9 => ?_
              generalize e9' : upd H8 l9 (.lst [.str z, .int n]) = H9
              have s9 : Same H8 H9 := by rw [← e9']; exact same_upd hl9
              have e9 : H9 l9 = some (.lst [.str z, .int n]) := by rw [← e9']; exact upd_same
              repeat walk_at "rd"
              refine r_neOwn (hf8.same s9).ins (.inl ⟨a, rfl, (ha8.same s9).ins⟩) (.inl ⟨f3, a, z1, n1, z2, n2, rfl, hf8.same s9, ha8.same s9, ⟨_, rfl, ?_⟩⟩)
              rw [decide_eq_false (fun h : z1 = z2 ∧ n1 = n2 => nez h.1)]
              repeat walk_at "rd"
              refine r_new (by show 3 ≤ 100000; decide) (fun t10 H10 ht10 s10 e10 _ => ?_)
              refine q x l9 z n t10 H10 ((hp8.same s9).same s10) ((k8.trans (.same s9)).trans (.same s10)) e10 ⟨(hr8.same s9).same s10, s10 _ _ e9, dm.asc, u0, u1⟩ (by omega) ?_
              rcases hor with ⟨rfl, rfl⟩ | ⟨rfl, rfl⟩
              · exact .inl rfl
              · exact .inr nf
            cases bb with
            | true =>
              rw [if_pos rfl]
              rw [if_pos rfl] at pick
              exact r_v1 (goal a pick.symm)
            | false =>
              rw [if_neg Bool.false_ne_true]
              rw [if_neg Bool.false_ne_true] at pick
              exact r_v6 (goal f3 pick.symm)
theorem sc_l_left : FnScope ["_law_pot_here", "_law_disk", "_law_model", "_law_found", "_law_left_here"] ["_law_pot_here", "_law_disk", "_law_model"] (defScope s_l_left) := ⟨rfl, rfl, rfl, by decide +kernel, rfl, by decide +kernel, by decide +kernel⟩
theorem ok_l_left (T : Tx K mg) : FnG P w K mg base CX0 true 8 (He.ga K "_law_left") T.fd_l_left ["_law_pot_here", "_law_disk", "_law_model"] (sp_left K) := by
  refine funG T.F_l_left sc_l_left (fun vs H Q E h => ?_) (fun cdv A outer s H vs Q E hr hg h => ?_)
  · obtain ⟨p, a, m, z, n, e, _⟩ := h; rw [e]; rfl
  · obtain ⟨p, a, m, z, n, rfl, dm, hz, q⟩ := h
    refine ⟨_, (pss_cons (ps_set (i := 3) sc_l_left.nd rfl (by first | exact Or.inl rfl | exact Or.inr rfl) (pg_meth0 (pv 1) T.c_Disk T.mt_Disk_clone (ok_Disk_clone T) (hr.mono (by decide)) hg T.b_Disk_clone .nil pass0))
    (pss_cons (ps_set (i := 4) sc_l_left.nd rfl (by first | exact Or.inl rfl | exact Or.inr rfl) (pg_meth0 (pv 3) T.c_Disk T.mt_Disk_clone (ok_Disk_clone T) (hr.mono (by decide)) hg T.b_Disk_clone .nil pass0))
    (pss_cons (ps_expr (pg_meth (pv 4) T.c_Disk T.mt_Disk_append (ok_Disk_append T) (hr.mono (by decide)) hg T.b_Disk_append .nil passN (pa_cons pe_str pa_nil)))
    (pss_cons (ps_expr (pg_meth0 (pv 4) T.c_Disk T.mt_Disk_sync (ok_Disk_sync T) (hr.mono (by decide)) hg T.b_Disk_sync .nil pass0))
    (pss_one (ps_ret (pe_and (pg_call (ok_l_is_shown T) (hr.mono (by decide)) hg (by rfl) T.g_l_is_shown T.F_l_is_shown.kp T.b_l_is_shown .nil pass0 (pa_cons (pv 3) (pa_cons (pv 2) pa_nil))) (pe_one (pg_call (ok_l_is_shown T) (hr.mono (by decide)) hg (by rfl) T.g_l_is_shown T.F_l_is_shown.kp T.b_l_is_shown .nil pass0 (pa_cons (pv 4) (pa_cons (pe_lst (pa_cons (pe_op op_add_str (pe_ix (ix_listK (K' := K)) (pv 2) pe_int (fun _ _ => rfl)) pe_str) (pa_cons (pe_op op_add (pe_callB call_len (by rfl) T.m_len (by decide +kernel) (pa_cons (pe_ix (ix_listK (K' := K)) (pv 2) pe_int (fun _ _ => rfl)) pa_nil)) pe_int) pa_nil))) pa_nil))))))))))), ?_⟩
    have u0 := dm.n0
    have u1 := dm.n1
    walk_at "st"
    repeat walk_at "rd"
    refine dsk_meth dm.d (by decide +kernel) (by decide +kernel) ?_
    repeat walk_at "rd"
    refine ⟨a, z, n, rfl, dm.d, by omega, u0, fun f1 H1 hf1 s1 hd1 => ?_⟩
    repeat walk_at "rd"
    refine dsk_meth hd1 (by decide +kernel) (by decide +kernel) ?_
    repeat walk_at "rd"
    refine ⟨f1, z, n, rfl, hd1, by omega, u0, fun f2 H2 hf2 s2 hd2 => ?_⟩
    have n12 : f1 ≠ f2 := hd1.ne hf2
    repeat walk_at "rd"
    refine dsk_meth hd2 (by decide +kernel) (by decide +kernel) ?_
    repeat walk_at "rd"
    have lx : (Str.ofString "x").length = 1 := by decide +kernel
    refine ⟨f2, z, n, _, rfl, hd2, .inl ⟨_, rfl, (by rw [lx]; omega), fun H3 ne3 hd3 => ?_⟩⟩
    have s13 : Same H1 H3 := fun b o eb => by rw [ne3 b (ne_of_none eb hf2)]; exact s2 _ _ eb
    dsimp only
    repeat walk_at "rd"
    refine dsk_meth hd3 (by decide +kernel) (by decide +kernel) ?_
    repeat walk_at "rd"
    have ll : (z ++ Str.ofString "x").length = z.length + 1 := by rw [PySem.Str.length_append, lx]
    refine ⟨f2, _, n, rfl, hd3, by omega, fun H4 ne4 hd4 => ?_⟩
    have s14 : Same H1 H4 := fun b o eb => by rw [ne4 b (ne_of_none eb hf2)]; exact s13 _ _ eb
    have hf4 := hd1.same s14
    have dm4 := (dm.same s1).same s14
    dsimp only
    repeat walk_at "rd"
    refine ⟨f1, m, z, n, rfl, hf4, dm4.m, dm.asc, by omega, u0, by omega, fun H5 s5 => ?_⟩
    have hm5 := s5 _ _ dm4.m
    have hz5 : z.length ≤ 100000 := by omega
    repeat walk_at "rd"
    refine q_addS (by rw [lnL, lx]; omega) ?_
    repeat walk_at "rd"
    refine r_new (by show 2 ≤ 100000; decide) (fun l6 H6 hl6 s6 e6 _ => ?_)
    repeat walk_at "rd"
    have c1 : ((z ++ Str.ofString "x").length : Int) = z.length + 1 := by rw [ll]; rfl
    rw [← c1] at e6
    refine ⟨f2, l6, _, _, rfl, (hd4.same s5).same s6, e6, dm.asc.app (asc_by (by decide +kernel)), by omega, by omega, by omega, fun H7 s7 => ?_⟩
    exact q H7 ((((s1.trans s14).trans s5).trans s6).trans s7)

end
def sp_right (K : PySem.W.Frag) : Sp := fun vs H Q _ => ∃ p, vs = [.ref p] ∧ PotAt H p ∧ Tabs (Tb K) H ∧ ∀ H', LL.Fr (Tb K) [p] H H' → Q (.bl true) H'
/-- the law's two disks and what they should hold -/
structure PW2 (K : PySem.W.Frag) (H0 H : Hp) (p L t0 t1 d0 m0 d1 m1 : Addr) (z0 z1 : Str) (n0 n1 : Int) (B : Nat) : Prop where
  hp : PotAt H p
  nL : L ≠ p
  eL : H L = some (.lst [.ref t0, .ref t1])
  e0 : H t0 = some (.tup [.ref d0, .ref m0])
  e1 : H t1 = some (.tup [.ref d1, .ref m1])
  w0 : DM K H d0 m0 z0 n0
  w1 : DM K H d1 m1 z1 n1
  nd : d0 ≠ d1
  N0 : New H0 d0
  N1 : New H0 d1
  NL : New H0 L
  fr : LL.Fr (Tb K) [p] H0 H
  tb : Tabs (Tb K) H
  l0 : z0.length ≤ B
  l1 : z1.length ≤ B
section
variable {K : PySem.W.Frag} {H0 H H' : Hp} {p L t0 t1 d0 m0 d1 m1 : Addr} {z0 z1 : Str} {n0 n1 : Int} {B : Nat}
theorem PW2.same (s : PW2 K H0 H p L t0 t1 d0 m0 d1 m1 z0 z1 n0 n1 B) (h : Same H H') : PW2 K H0 H' p L t0 t1 d0 m0 d1 m1 z0 z1 n0 n1 B :=
  ⟨s.hp.same h, s.nL, h _ _ s.eL, h _ _ s.e0, h _ _ s.e1, s.w0.same h, s.w1.same h, s.nd, s.N0, s.N1, s.NL, s.fr.trans (.same h), s.tb.ext h, s.l0, s.l1⟩
theorem tup_ne {t p : Addr} {xs : List V} (h : H t = some (.tup xs)) (hp : PotAt H p) : t ≠ p := by
  rintro rfl
  obtain ⟨c0, c1, e, _⟩ := hp
  rw [h] at e
  cases e
theorem PW2.go (s : PW2 K H0 H p L t0 t1 d0 m0 d1 m1 z0 z1 n0 n1 B) (f : LL.Fr (Tb K) [p] H H') (hp : PotAt H' p) : PW2 K H0 H' p L t0 t1 d0 m0 d1 m1 z0 z1 n0 n1 B := by
  obtain ⟨a1, a2⟩ := s.w0.ne s.hp
  obtain ⟨b1, b2⟩ := s.w1.ne s.hp
  exact ⟨hp, s.nL, f.at_ s.eL trivial (by simpa using s.nL), f.at_ s.e0 trivial (by simpa using tup_ne s.e0 s.hp), f.at_ s.e1 trivial (by simpa using tup_ne s.e1 s.hp), s.w0.fr f (by simpa using a1) (by simpa using a2), s.w1.fr f (by simpa using b1) (by simpa using b2),
    s.nd, s.N0, s.N1, s.NL, s.fr.trans f, f.tb s.tb, s.l0, s.l1⟩
theorem DM.off {a m b : Addr} {z : Str} {n : Int} (h : DM K H a m z n) (ne : ∀ c, c ≠ b → H' c = H c) (ha : a ≠ b) (hm : m ≠ b) : DM K H' a m z n := ⟨h.d.off ne ha, by rw [ne m hm]; exact h.m, h.asc, h.n0, h.n1⟩
theorem DM.nem {a m b : Addr} {z : Str} {n : Int} {xs : List V} (h : DM K H a m z n) (e : H b = some (.lst xs)) (hx : xs ≠ [.str z, .int n]) : m ≠ b := by
  rintro rfl
  have := h.m
  rw [e] at this
  cases this
  exact hx rfl
theorem eqv_dm {z z' : Str} {n n' : Int} : PyData.eqv (.list [.str z, .int n]) (.list [.str z', .int n']) = decide (z = z' ∧ n = n') := by
  simp only [PyData.eqv, PyData.eqvAll, Bool.and_true]
  by_cases h1 : z = z'
  · subst h1
    by_cases h2 : n = n'
    · subst h2; simp
    · simp [h2]
  · simp [h1]
theorem r_neB {b : Bool} {Q : VK} (q : Q (.bl false) H) : rNe (.bl b) (.bl b) H Q := ⟨rfl, by
  have e : decide (V.bl b = V.bl b) = true := decide_eq_true rfl
  rw [e]; exact q⟩
theorem r_eqDM {m m' : Addr} {z z' : Str} {n n' : Int} {Q : VK} (h : H m = some (.lst [.str z, .int n])) (h' : H m' = some (.lst [.str z', .int n'])) (a : Asc z) (a' : Asc z') (q : Q (.bl (decide (z = z' ∧ n = n'))) H) : rEqD K (.ref m) (.ref m') H Q :=
  ⟨_, _, dp_dm h, dp_dm h', shaped_dm a, shaped_dm a', by rw [eqv_dm]; exact q⟩
end

section
variable {K : PySem.W.Frag} {H0 H H1 H2 H3 : Hp} {p L t0 t1 d0 m0 d1 m1 t' d' m' : Addr} {z0 z1 z' : Str} {n0 n1 n' : Int} {B : Nat}
theorem DiskAt.net {a t : Addr} {z : Str} {n : Int} {xs : List V} (h : DiskAt K H a z n) (e : H t = some (.tup xs)) : t ≠ a := by
  rintro rfl
  obtain ⟨dx, z1⟩ := h
  rw [e] at z1
  cases z1
theorem New.nd {d a : Addr} {z : Str} {n : Int} (n' : New H d) (h : DiskAt K H a z n) : d ≠ a := by
  rintro rfl
  obtain ⟨dx, z1⟩ := h
  exact n' _ (by intro ps e; cases e) z1
theorem New.np {d p : Addr} (n' : New H d) (h : PotAt H p) : d ≠ p := by
  rintro rfl
  obtain ⟨c0, c1, e, _⟩ := h
  exact n' _ (by intro ps e; cases e) e
theorem PW2.up0 (s : PW2 K H0 H p L t0 t1 d0 m0 d1 m1 z0 z1 n0 n1 B) (k1 : LL.Fr (Tb K) [p, d0] H H1) (hp : PotAt H1 p) (dm : DM K H1 d' m' z' n') (nw : d' = d0 ∨ New H d') (hl : z'.length ≤ z0.length + 9)
    (s2 : Same H1 H2) (e2 : H2 t' = some (.tup [.ref d', .ref m'])) (e3 : H3 L = some (.lst [.ref t', .ref t1])) (ne : ∀ c, c ≠ L → H3 c = H2 c) :
    PW2 K H0 H3 p L t' t1 d' m' d1 m1 z' z1 n' n1 (B + 9) ∧ DM K H3 d' m' z' n' := by
  have nLd : L ≠ d0 := s.w0.d.nel s.eL
  obtain ⟨a1, a2⟩ := s.w1.ne s.hp
  have L1 := s2 _ _ (k1.at_ s.eL trivial (by simpa using ⟨s.nL, nLd⟩))
  have T1 := s2 _ _ (k1.at_ s.e1 trivial (by simpa using ⟨tup_ne s.e1 s.hp, s.w0.d.net s.e1⟩))
  have W1 := (s.w1.fr k1 (by simpa using ⟨a1, fun e => s.nd e.symm⟩) (by simpa using ⟨a2, s.w0.d.nel s.w1.m⟩)).same s2
  have W0 := dm.same s2
  have hp2 := hp.same s2
  have tL : ∀ {t : Addr} {xs : List V}, H2 t = some (.tup xs) → t ≠ L := fun e z => by
    rw [z, L1] at e
    cases e
  have f2 : LL.Fr (Tb K) [p] H0 H2 := (Fr_new s.fr s.N0 (k1.mono (by simp))).trans (.same s2)
  have f3 : LL.Fr (Tb K) [p] H0 H3 := Fr_new f2 s.NL (.set L1 trivial (by simp) ne)
  have W3 := W0.off ne (fun e => W0.d.nel L1 e.symm) (W0.nem L1 (by simp))
  refine ⟨⟨hp2.off (fun e => s.nL e) ne, s.nL, e3, by rw [ne _ (tL e2)]; exact e2, by rw [ne _ (tL T1)]; exact T1, W0.off ne (fun e => W0.d.nel L1 e.symm) (W0.nem L1 (by simp)), W1.off ne (fun e => W1.d.nel L1 e.symm) (W1.nem L1 (by simp)), ?_, ?_, s.N1, s.NL, f3, ?_, by have := s.l0; omega, by have := s.l1; omega⟩, W3⟩
  · rcases nw with rfl | nw
    · exact s.nd
    · exact nw.nd s.w1.d
  · rcases nw with rfl | nw
    · exact s.N0
    · exact nw.back s.fr (by simpa using nw.np s.hp)
  · exact (LL.Fr.set (T := Tb K) (S := [L]) L1 trivial (by simp) ne).tb ((k1.tb s.tb).ext s2)
theorem PW2.up1 (s : PW2 K H0 H p L t0 t1 d0 m0 d1 m1 z0 z1 n0 n1 B) (k1 : LL.Fr (Tb K) [p, d1] H H1) (hp : PotAt H1 p) (dm : DM K H1 d' m' z' n') (nw : d' = d1 ∨ New H d') (hl : z'.length ≤ z1.length + 9)
    (s2 : Same H1 H2) (e2 : H2 t' = some (.tup [.ref d', .ref m'])) (e3 : H3 L = some (.lst [.ref t0, .ref t'])) (ne : ∀ c, c ≠ L → H3 c = H2 c) :
    PW2 K H0 H3 p L t0 t' d0 m0 d' m' z0 z' n0 n' (B + 9) ∧ DM K H3 d' m' z' n' := by
  have nLd : L ≠ d1 := s.w1.d.nel s.eL
  obtain ⟨a1, a2⟩ := s.w0.ne s.hp
  have L1 := s2 _ _ (k1.at_ s.eL trivial (by simpa using ⟨s.nL, nLd⟩))
  have T1 := s2 _ _ (k1.at_ s.e0 trivial (by simpa using ⟨tup_ne s.e0 s.hp, s.w1.d.net s.e0⟩))
  have W1 := (s.w0.fr k1 (by simpa using ⟨a1, s.nd⟩) (by simpa using ⟨a2, s.w1.d.nel s.w0.m⟩)).same s2
  have W0 := dm.same s2
  have hp2 := hp.same s2
  have tL : ∀ {t : Addr} {xs : List V}, H2 t = some (.tup xs) → t ≠ L := fun e z => by
    rw [z, L1] at e
    cases e
  have f2 : LL.Fr (Tb K) [p] H0 H2 := (Fr_new s.fr s.N1 (k1.mono (by simp))).trans (.same s2)
  have f3 : LL.Fr (Tb K) [p] H0 H3 := Fr_new f2 s.NL (.set L1 trivial (by simp) ne)
  have W3 := W0.off ne (fun e => W0.d.nel L1 e.symm) (W0.nem L1 (by simp))
  refine ⟨⟨hp2.off (fun e => s.nL e) ne, s.nL, e3, by rw [ne _ (tL T1)]; exact T1, by rw [ne _ (tL e2)]; exact e2, W1.off ne (fun e => W1.d.nel L1 e.symm) (W1.nem L1 (by simp)), W0.off ne (fun e => W0.d.nel L1 e.symm) (W0.nem L1 (by simp)), ?_, s.N0, ?_, s.NL, f3, ?_, by have := s.l0; omega, by have := s.l1; omega⟩, W3⟩
  · rcases nw with rfl | nw
    · exact s.nd
    · exact fun e => nw.nd s.w0.d e.symm
  · rcases nw with rfl | nw
    · exact s.N1
    · exact nw.back s.fr (by simpa using nw.np s.hp)
  · exact (LL.Fr.set (T := Tb K) (S := [L]) L1 trivial (by simp) ne).tb ((k1.tb s.tb).ext s2)
theorem PW2.two (s : PW2 K H0 H p L t0 t1 d0 m0 d1 m1 z0 z1 n0 n1 B) {i : Nat} {x : V} (h : [V.ref t0, V.ref t1][i]? = some x) : i < 2 ∧ ∃ t d m z n, x = .ref t ∧ H t = some (.tup [.ref d, .ref m]) ∧ DM K H d m z n ∧ z.length ≤ B := by
  have hi : i < 2 := (List.getElem?_eq_some_iff.mp h).1
  obtain rfl | rfl : i = 0 ∨ i = 1 := by omega
  · cases h; exact ⟨by omega, t0, d0, m0, z0, n0, rfl, s.e0, s.w0, s.l0⟩
  · cases h; exact ⟨by omega, t1, d1, m1, z1, n1, rfl, s.e1, s.w1, s.l1⟩
/-- the pair with number j of the list, as a turn finds it and leaves it -/
structure Pick (K : PySem.W.Frag) (H0 H : Hp) (p L : Addr) (xs : List V) (j : Nat) (d m : Addr) (z : Str) (n : Int) (B : Nat) : Prop where
  hp : PotAt H p
  eL : H L = some (.lst xs)
  le : xs.length = 2
  tk : ∃ t, xs[j]? = some (.ref t) ∧ H t = some (.tup [.ref d, .ref m])
  w : DM K H d m z n
  l : z.length ≤ B
  up : ∀ {d' m' t' : Addr} {z' : Str} {n' : Int} {H1 H2 H3 : Hp}, LL.Fr (Tb K) [p, d] H H1 → PotAt H1 p → DM K H1 d' m' z' n' → (d' = d ∨ New H d') → z'.length ≤ z.length + 9 → Same H1 H2 → H2 t' = some (.tup [.ref d', .ref m']) →
    H3 L = some (.lst (xs.set j (.ref t'))) → (∀ c, c ≠ L → H3 c = H2 c) →
    ∃ t0 t1 d0 m0 d1 m1 z0 z1 n0 n1, PW2 K H0 H3 p L t0 t1 d0 m0 d1 m1 z0 z1 n0 n1 (B + 9) ∧ DM K H3 d' m' z' n'
theorem same_off {D : Addr} (s : Same H H1) (hD : H D = none) (ne : ∀ b, b ≠ D → H2 b = H1 b) : Same H H2 := fun b o e => by rw [ne b (ne_of_none e hD)]; exact s b o e
theorem PW2.pick (s : PW2 K H0 H p L t0 t1 d0 m0 d1 m1 z0 z1 n0 n1 B) {j : Nat} (hj : j < 2) : ∃ d m z n, Pick K H0 H p L [.ref t0, .ref t1] j d m z n B := by
  obtain rfl | rfl : j = 0 ∨ j = 1 := by omega
  · exact ⟨d0, m0, z0, n0, s.hp, s.eL, rfl, ⟨t0, rfl, s.e0⟩, s.w0, s.l0, fun a b c d e f g h i => ⟨_, _, _, _, _, _, _, _, _, _, s.up0 a b c d e f g h i⟩⟩
  · exact ⟨d1, m1, z1, n1, s.hp, s.eL, rfl, ⟨t1, rfl, s.e1⟩, s.w1, s.l1, fun a b c d e f g h i => ⟨_, _, _, _, _, _, _, _, _, _, s.up1 a b c d e f g h i⟩⟩
end

section
variable {P : Program} {w : World} {K : PySem.W.Frag} {mg : Str → Option Value} {base : Heap}
theorem sc_l_right : FnScope ["_law_pot_here", "_law_text_here", "_law_pairs", "_law_turn", "_law_k", "_law_disk", "_law_model", "_law_is_right", "_law_one", "_law_due"] ["_law_pot_here"] (defScope s_l_right) := ⟨rfl, rfl, rfl, by decide +kernel, rfl, by decide +kernel, by decide +kernel⟩
theorem ok_l_right (T : Tx K mg) (TB : ∀ q ∈ tabsIn K ftabs, TabB base mg q.1 q.2) : FnG P w K mg base CX0 true 10 (He.ga K "_law_right") T.fd_l_right ["_law_pot_here"] (sp_right K) := by
  refine funG T.F_l_right sc_l_right (fun vs H Q E h => ?_) (fun cdv A outer s H vs Q E hr hg h => ?_)
  · obtain ⟨p, e, _⟩ := h; rw [e]; rfl
  · obtain ⟨p, rfl, hp, tb, q⟩ := h
    refine ⟨_, (pss_cons (ps_set (i := 1) sc_l_right.nd rfl (by first | exact Or.inl rfl | exact Or.inr rfl) (pg_call (ok_l_text T) (hr.mono (by decide)) hg (by rfl) T.g_l_text T.F_l_text.kp T.b_l_text .nil pass0 (pa_cons (pv 0) pa_nil)))
    (pss_cons (ps_set (i := 2) sc_l_right.nd rfl (by first | exact Or.inl rfl | exact Or.inr rfl) (pe_lst (pa_cons (pe_tup (pa_cons (pg_make0 T.k_Disk (ok_DiskU_initU T) (hr.mono (by decide)) hg (by rfl) T.g_Disk T.b_DiskU_initU_0.choose_spec.2 T.b_DiskU_initU_0.choose_spec.1 passN) (pa_cons (pe_lst (pa_cons pe_str (pa_cons pe_int pa_nil))) pa_nil))) (pa_cons (pe_tup (pa_cons (pg_make T.k_Disk (ok_DiskU_initU T) (hr.mono (by decide)) hg (by rfl) T.g_Disk T.b_DiskU_initU .nil passN (pa_cons (pv 1) pa_nil)) (pa_cons (pe_lst (pa_cons (pv 1) (pa_cons (pe_callB call_len (by rfl) T.m_len (by decide +kernel) (pa_cons (pv 1) pa_nil)) pa_nil))) pa_nil))) pa_nil))))
    (pss_cons (ps_for PassesOwn.never (by rfl) (pi_range1 (by rfl) T.m_range (pa_cons (pe_op op_add pe_int (pg_call (ok_l_take T) (hr.mono (by decide)) hg (by rfl) T.g_l_take T.F_l_take.kp T.b_l_take .nil pass0 (pa_cons (pv 0) (pa_cons pe_int pa_nil)))) pa_nil)) (pg_name (i := 3) sc_l_right.nd rfl (by first | exact Or.inl rfl | exact Or.inr rfl)) (pss_cons (ps_set (i := 4) sc_l_right.nd rfl (by first | exact Or.inl rfl | exact Or.inr rfl) (pg_call (ok_l_take T) (hr.mono (by decide)) hg (by rfl) T.g_l_take T.F_l_take.kp T.b_l_take .nil pass0 (pa_cons (pv 0) (pa_cons pe_int pa_nil))))
    (pss_cons (ps_asg (pg_call (ok_l_changed T) (hr.mono (by decide)) hg (by rfl) T.g_l_changed T.F_l_changed.kp T.b_l_changed .nil pass0 (pa_cons (pv 0) (pa_cons (pe_ix (ix_tupK (K' := K)) (pe_ix (ix_listK (K' := K)) (pv 2) (pv 4) (fun _ _ => rfl)) pe_int (fun _ _ => rfl)) (pa_cons (pe_ix (ix_tupK (K' := K)) (pe_ix (ix_listK (K' := K)) (pv 2) (pv 4) (fun _ _ => rfl)) pe_int (fun _ _ => rfl)) pa_nil)))) (pg_tupK (K' := K) (n := 3) (by rfl) (pgs_cons (pg_name (i := 5) sc_l_right.nd rfl (by first | exact Or.inl rfl | exact Or.inr rfl)) (pgs_cons (pg_name (i := 6) sc_l_right.nd rfl (by first | exact Or.inl rfl | exact Or.inr rfl)) (pgs_cons (pg_name (i := 7) sc_l_right.nd rfl (by first | exact Or.inl rfl | exact Or.inr rfl)) pgs_nil)))))
    (pss_cons (ps_asg (pe_tup (pa_cons (pv 5) (pa_cons (pv 6) pa_nil))) (pg_sub (pv 2) (pv 4) set_list))
    (pss_cons (ps_if (PW.pt (pw_or (pt_not (pt_val (pv 7))) (pw_or1 (pt_not (pt_val (pe_callB (cr_all rfl) (by rfl) T.m_all (by decide +kernel) (pa_cons (pe_lc (own := [("_law_one", 8), ("_law_due", 9)]) (by rfl) sc_l_right.nd (pi_list (pv 2)) (blkOk_by (own := [("_law_one", 8), ("_law_due", 9)]) (N := ["_law_pot_here", "_law_text_here", "_law_pairs", "_law_turn", "_law_k", "_law_disk", "_law_model", "_law_is_right", "_law_one", "_law_due"]) (sc := defScope s_l_right) (by decide +kernel)) (fun _ _ _ _ _ => (pg_tupK (K' := K) (n := 2) (by rfl) (pgs_cons (pg_name (i := 8) sc_l_right.nd rfl (by first | exact Or.inl rfl | exact Or.inr rfl)) (pgs_cons (pg_name (i := 9) sc_l_right.nd rfl (by first | exact Or.inl rfl | exact Or.inr rfl)) pgs_nil)))) (fun _ _ _ _ _ => pts_nil) (fun _ _ _ _ _ => (pg_call (ok_l_is_shown T) (hr.mono (by decide)) hg (by rfl) T.g_l_is_shown T.F_l_is_shown.kp T.b_l_is_shown .nil pass0 (pa_cons (pv 8) (pa_cons (pv 9) pa_nil))))) pa_nil))))))) (pss_one (ps_ret pe_bl)) pss_nil)
    (pss_cons (ps_if (PW.pt (pw_or (pt_cmpR op_ne (pe_cmpR (op_eqOwn T.o_Disk_eq (ok_DiskU_eqU T) (hr.mono (by decide)) hg T.b_DiskU_eqU pass0) (pe_ix (ix_tupK (K' := K)) (pe_ix (ix_listK (K' := K)) (pv 2) pe_int (fun _ _ => rfl)) pe_int (fun _ _ => rfl)) (pe_ix (ix_tupK (K' := K)) (pe_ix (ix_listK (K' := K)) (pv 2) pe_int (fun _ _ => rfl)) pe_int (fun _ _ => rfl)) (nomark _)) (pe_cmpR (op_eqD hr.units) (pe_ix (ix_tupK (K' := K)) (pe_ix (ix_listK (K' := K)) (pv 2) pe_int (fun _ _ => rfl)) pe_int (fun _ _ => rfl)) (pe_ix (ix_tupK (K' := K)) (pe_ix (ix_listK (K' := K)) (pv 2) pe_int (fun _ _ => rfl)) pe_int (fun _ _ => rfl)) (nomark _)) (nomark _)) (pw_or1 (pt_cmpR (op_eqX T.o_Disk_eq (ok_DiskU_eqU T) (hr.mono (by decide)) hg T.b_DiskU_eqU pass0) (pe_ix (ix_tupK (K' := K)) (pe_ix (ix_listK (K' := K)) (pv 2) pe_int (fun _ _ => rfl)) pe_int (fun _ _ => rfl)) (pe_ix (ix_tupK (K' := K)) (pe_ix (ix_listK (K' := K)) (pv 2) pe_int (fun _ _ => rfl)) pe_int (fun _ _ => rfl)) (nomark _))))) (pss_one (ps_ret pe_bl)) pss_nil)
    (pss_one (ps_if (PW.pt (pw_or (pt_not (pt_val (pg_call (ok_l_refusals_right T TB) (hr.mono (by decide)) hg (by rfl) T.g_l_refusals_right T.F_l_refusals_right.kp T.b_l_refusals_right .nil pass0 (pa_cons (pv 0) (pa_cons (pv 5) (pa_cons (pv 6) pa_nil)))))) (pw_or1 (pt_not (pt_val (pg_call (ok_l_left T) (hr.mono (by decide)) hg (by rfl) T.g_l_left T.F_l_left.kp T.b_l_left .nil pass0 (pa_cons (pv 0) (pa_cons (pv 5) (pa_cons (pv 6) pa_nil))))))))) (pss_one (ps_ret pe_bl)) pss_nil))))))))
    (pss_one (ps_ret pe_bl))))), ?_⟩
    walk_at "st"
    repeat walk_at "rd"
    refine ⟨p, rfl, hp, fun tx H1 htl hta hp1 k1 => ?_⟩
    have tx5 : tx.length ≤ 100000 := by omega
    have tb1 := k1.tb tb
    repeat walk_at "rd"
    refine use_mkD rfl (by decide +kernel) (fun d0 H2 s2 hd0 w0 => ?_)
    repeat walk_at "rd"
    refine r_new (by show 2 ≤ 100000; decide) (fun m0 H3 hm0 s3 em0 _ => ?_)
    repeat walk_at "rd"
    refine r_new (by show 2 ≤ 100000; decide) (fun t0 H4 ht0 s4 et0 _ => ?_)
    repeat walk_at "rd"
    refine use_mkD rfl tx5 (fun d1 H5 s5 hd1 w1 => ?_)
    repeat walk_at "rd"
    refine r_new (by show 2 ≤ 100000; decide) (fun m1 H6 hm1 s6 em1 _ => ?_)
    repeat walk_at "rd"
    refine r_new (by show 2 ≤ 100000; decide) (fun t1 H7 ht1 s7 et1 _ => ?_)
    repeat walk_at "rd"
    refine r_new (by show 2 ≤ 100000; decide) (fun L H8 hL s8 eL _ => ?_)
    repeat walk_at "rd"
    have s18 : Same H1 H8 := (((((s2.trans s3).trans s4).trans s5).trans s6).trans s7).trans s8
    have le0 : (Str.ofString "").length = 0 := by decide +kernel
    have st : PW2 K H H8 p L t0 t1 d0 m0 d1 m1 (Str.ofString "") tx 0 tx.length 9 := by
      have f17 : LL.Fr (Tb K) [p] H H7 := k1.trans (.same (((((s2.trans s3).trans s4).trans s5).trans s6).trans s7))
      have f14 : LL.Fr (Tb K) [p] H H4 := k1.trans (.same ((s2.trans s3).trans s4))
      have w0' : DiskAt K H2 d0 (Str.ofString "") 0 := by rw [le0] at w0; exact w0
      have w0' : DiskAt K H4 d0 (Str.ofString "") 0 := (w0'.same s3).same s4
      refine ⟨hp1.same s18, (hp1.same ((((((s2.trans s3).trans s4).trans s5).trans s6).trans s7))).neq hL, eL, s8 _ _ (s7 _ _ (s6 _ _ (s5 _ _ et0))), s8 _ _ et1,
        ⟨((w0'.same s5).same ((s6.trans s7).trans s8)), s8 _ _ (s7 _ _ (s6 _ _ (s5 _ _ (s4 _ _ em0)))), asc_by (by decide +kernel), by decide, by omega⟩,
        ⟨w1.same ((s6.trans s7).trans s8), s8 _ _ (s7 _ _ em1), hta, by omega, by omega⟩, w0'.ne hd1, New.of k1 hd0 (by simpa using hp1.neq hd0), New.of f14 hd1 (by simpa using (hp1.same ((s2.trans s3).trans s4)).neq hd1),
        New.of f17 hL (by simpa using (hp1.same ((((((s2.trans s3).trans s4).trans s5).trans s6).trans s7))).neq hL), k1.trans (.same s18), tb1.ext s18, by omega, htl⟩
    refine use_take st.hp (by omega) (by omega) (fun d9 H9 d90 d91 hp9 k9 => ?_)
    have st := st.go k9 hp9
    repeat walk_at "rd"
    refine ⟨by omega, by omega, ?_⟩
    refine u_range (fun i σ H' => ∃ x3 x4 x5 x6 x7 x8 x9 t0 t1 d0 m0 d1 m1 z0 z1 n0 n1, σ = [some (V.ref p), some (V.str tx), some (V.ref L), x3, x4, x5, x6, x7, x8, x9] ∧ PW2 K H H' p L t0 t1 d0 m0 d1 m1 z0 z1 n0 n1 (9 + 9 * i))
      ⟨_, _, _, _, _, _, _, _, _, _, _, _, _, _, _, _, _, rfl, st⟩ ?_ ?_
    · clear st hp9 k9 d90
      rintro i σ H10 hi ⟨x3, x4, x5, x6, x7, x8, x9, t0, t1, d0, m0, d1, m1, z0, z1, n0, n1, rfl, st⟩
      repeat walk_at "rd"
      refine use_take st.hp (by omega) (by omega) (fun k H11 k0 k1 hp11 f11 => ?_)
      have st := st.go f11 hp11
      obtain ⟨j, rfl⟩ := Int.eq_ofNat_of_zero_le k0
      obtain ⟨dk, mk, zk, nk, pk⟩ := st.pick (j := j) (by omega)
      obtain ⟨tk, etk, etk2⟩ := pk.tk
      repeat walk_at "rd"
      refine r_ixL (.inl (.inl pk.eL)) (atI_nat etk) ?_
      repeat walk_at "rd"
      refine r_ixL (.inl (.inl pk.eL)) (atI_nat etk) ?_
      repeat walk_at "rd"
      have pkl := pk.l
      refine ⟨p, dk, mk, zk, nk, rfl, pk.hp, pk.w, by omega, fun d' m' z' n' t12 H12 hp12 f12 e12 dm12 l12 nw12 => ?_⟩
      repeat walk_at "rd"
      refine r_gtup (.inl (.inl e12)) (by rfl) ?_
      repeat walk_at "rd"
      refine r_new (by show 2 ≤ 100000; decide) (fun t13 H13 ht13 s13 e13 _ => ?_)
      repeat walk_at "rd"
      have nLk : L ≠ dk := pk.w.d.nel pk.eL
      have eL13 := s13 _ _ (f12.at_ pk.eL trivial (by simpa using ⟨st.nL, nLk⟩))
      refine r_setL (j := j) eL13 (by obtain rfl | rfl : j = 0 ∨ j = 1 := by omega
                                      all_goals rfl) (fun H14 e14 ne14 => ?_)
      obtain ⟨t0, t1, d0, m0, d1, m1, z0, z1, n0, n1, st, dm14⟩ := pk.up f12 hp12 dm12 nw12 l12 s13 e13 e14 ne14
      clear pk etk etk2 e12 e13 e14 eL13 ne14 f12 nw12 dm12 nLk
      repeat walk_at "rd"
      refine q_itl st.eL ?_
      refine u_lcL (xs := [V.ref t0, V.ref t1]) (fun D H15 hD sD eD nD => ?_)
      refine ⟨fun i H' => Same H14 H' ∧ H' D = some (.lst ((List.replicate i true).map V.bl)), ⟨sD, eD⟩, ?_, ?_, ?_⟩
      · rintro i H' _ ⟨s, _⟩
        exact .inl (.inl (s _ _ st.eL))
      · rintro i2 x H16 hx ⟨s, e⟩
        have st' := st.same s
        obtain ⟨hi2, t', d2, m2, z2, n2, rfl, et, w2, l2⟩ := st'.two hx
        have w20 := w2.n0
        have w21 := w2.n1
        repeat walk_at "rd"
        refine r_gtup (.inl (.inl et)) (by rfl) ?_
        repeat walk_at "rd"
        refine ⟨rfl, ?_⟩
        repeat walk_at "rd"
        refine ⟨d2, m2, z2, n2, rfl, w2.d, w2.m, w2.asc, by omega, w20, by omega, fun H17 s17 => ?_⟩
        refine g_grow (s17 _ _ e) (by simp; omega) (fun H18 e18 ne18 => ⟨same_off (s.trans s17) hD ne18, by rw [e18, List.replicate_succ', List.map_append]; rfl⟩)
      · rintro H16 ⟨s16, e16⟩
        have st := st.same s16
        have dm14 := dm14.same s16
        repeat walk_at "rd"
        refine r_all (.inl (.inl e16)) ?_
        rw [show (List.replicate [V.ref t0, V.ref t1].length true).all id = true from rfl]
        have eL16 := st.eL
        have e016 := st.e0
        have e116 := st.e1
        repeat walk_at "rd"
        refine r_opOwn st.w0.d.ins (.inl ⟨d1, rfl, st.w1.d.ins⟩) (.inl ⟨d0, d1, z0, n0, z1, n1, rfl, st.w0.d, st.w1.d, ?_⟩)
        repeat walk_at "rd"
        refine r_eqDM st.w0.m st.w1.m st.w0.asc st.w1.asc ?_
        repeat walk_at "rd"
        refine r_neB ?_
        repeat walk_at "rd"
        refine ⟨d0, rfl, st.w0.d.ins, ⟨"list", .base (.lst st.w0.m), by decide⟩, .inr ⟨d0, z0, n0, _, rfl, st.w0.d, .base (.lst st.w0.m), ?_⟩⟩
        repeat walk_at "rd"
        have l140 := dm14.n0
        have l141 := dm14.n1
        refine ⟨p, d', m', z', n', rfl, st.hp, dm14, by omega, st.tb, fun H17 hp17 f17 => ?_⟩
        obtain ⟨nd17, nm17⟩ := dm14.ne st.hp
        have dm17 := dm14.fr f17 (by simpa using nd17) (by simpa using nm17)
        have st := st.go f17 hp17
        repeat walk_at "rd"
        refine ⟨p, d', m', z', n', rfl, dm17, by omega, fun H18 s18 => ?_⟩
        repeat walk_at "rd"
        exact ⟨_, _, _, _, _, _, _, _, _, _, _, _, _, _, _, _, _, rfl, st.same s18⟩
    · rintro σ H10 ⟨x3, x4, x5, x6, x7, x8, x9, t0, t1, d0, m0, d1, m1, z0, z1, n0, n1, rfl, st⟩
      repeat walk_at "rd"
      exact q _ st.fr

end
def sp_law (K : PySem.W.Frag) : Sp := fun vs H Q _ => ∃ a, ∃ ns : List Int, vs = [.ref a] ∧ SqL K H a (ns.map V.int) ∧ ns.length ≤ 63 ∧ Tabs (Tb K) H ∧ ∀ H', Q (.bl true) H'
theorem sql_fr {K : PySem.W.Frag} {T : List (Addr × Str)} {H H' : Hp} {a : Addr} {xs : List V} (h : SqL K H a xs) (f : LL.Fr T [] H H') : SqL K H' a xs := by
  rcases h with (h | ⟨o, h⟩) | h
  · exact .inl (.inl (f.kp _ _ (by simp) (by intro ps e; cases e) h))
  · exact .inl (.inr ⟨o, f.kp _ _ (by simp) (by intro ps e; cases e) h⟩)
  · exact .inr h

section
variable {P : Program} {w : World} {K : PySem.W.Frag} {mg : Str → Option Value} {base : Heap}
theorem sc_law : FnScope ["_law_script", "_law_k"] ["_law_script"] (defScope s_law) := ⟨rfl, rfl, rfl, by decide +kernel, rfl, by decide +kernel, by decide +kernel⟩
theorem ok_law (T : Tx K mg) (TB : ∀ q ∈ tabsIn K ftabs, TabB base mg q.1 q.2) : FnG P w K mg base CX0 true 11 (He.ga K "law") T.fd_law ["_law_script"] (sp_law K) := by
  refine funG T.F_law sc_law (fun vs H Q E h => ?_) (fun cdv A outer s H vs Q E hr hg h => ?_)
  · obtain ⟨a, ns, e, _⟩ := h; rw [e]; rfl
  · obtain ⟨a, ns, rfl, hs, hn, ht, k⟩ := h
    refine ⟨_, (pss_one (ps_ret (pe_callB (cr_all rfl) (by rfl) T.m_all (by decide +kernel) (pa_cons (pe_lc (own := [("_law_k", 1)]) (by rfl) sc_law.nd (pi_range1 (by rfl) T.m_range (pa_cons (pe_callB (call_max2 rfl) (by rfl) T.m_max (by decide +kernel) (pa_cons pe_int (pa_cons (pe_callB (call_min2 rfl) (by rfl) T.m_min (by decide +kernel) (pa_cons (pe_callB call_len (by rfl) T.m_len (by decide +kernel) (pa_cons (pv 0) pa_nil)) (pa_cons pe_int pa_nil))) pa_nil))) pa_nil)) (blkOk_by (own := [("_law_k", 1)]) (N := ["_law_script", "_law_k"]) (sc := defScope s_law) (by decide +kernel)) (fun _ _ _ _ _ => (pg_name (i := 1) sc_law.nd rfl (by first | exact Or.inl rfl | exact Or.inr rfl))) (fun _ _ _ _ _ => pts_nil) (fun _ _ _ _ _ => (pg_call (ok_l_right T TB) (hr.mono (by decide)) hg (by rfl) T.g_l_right T.F_l_right.kp T.b_l_right .nil pass0 (pa_cons (pg_call (ok_l_pot T) (hr.mono (by decide)) hg (by rfl) T.g_l_pot T.F_l_pot.kp T.b_l_pot .nil pass0 (pa_cons (pv 0) (pa_cons (pv 1) pa_nil))) pa_nil)))) pa_nil)))), ?_⟩
    walk_at "st"
    repeat walk_at "rd"
    refine q_lenL hs ?_
    repeat walk_at "rd"
    rw [List.length_map]
    obtain ⟨m, em⟩ : ∃ m : Int, m = (if (if (6 : Int) < ns.length then 6 else (ns.length : Int)) > 1 then (if (6 : Int) < ns.length then 6 else (ns.length : Int)) else 1) := ⟨_, rfl⟩
    rw [← em]
    have m8 : m ≤ 6 ∧ 0 ≤ m := by
      rw [em]
      split <;> split <;> omega
    clear em
    refine ⟨by omega, by omega, u_lcR (fun D H0 hD sD eD nD => ?_)⟩
    refine ⟨fun i H' => H' D = some (.lst ((List.replicate i true).map V.bl)) ∧ LL.Fr (Tb K) [] H H', ⟨eD, .same sD⟩, ?_, ?_⟩
    · rintro i H2 hi ⟨e2, f2⟩
      repeat walk_at "rd"
      refine ⟨rfl, ?_⟩
      repeat walk_at "rd"
      refine use_pot (sql_fr hs f2) (by omega) (by omega) (fun p H3 hp s3 pp => ?_)
      repeat walk_at "rd"
      have f3 := f2.trans (.same s3)
      refine ⟨p, rfl, pp, f3.tb ht, fun H4 k4 => ?_⟩
      have nDp : D ≠ p := ne_of_none e2 hp
      have e4 := k4.at_ (s3 _ _ e2) trivial (by simpa using nDp)
      have f4 : LL.Fr (Tb K) [] H H4 := (Fr_new f2 (d := p) (New.of f2 hp List.not_mem_nil) ((LL.Fr.same s3).trans k4 |>.mono (by simp)))
      refine g_grow e4 (by rw [List.length_map, List.length_replicate]; omega) (fun H5 e5 ne5 => ⟨by rw [e5, List.replicate_succ', List.map_append]; rfl, ?_⟩)
      exact Fr_new f4 (New.of (T := Tb K) (S := []) (.same (fun _ _ e => e)) hD List.not_mem_nil) (.set e4 trivial (by simp) ne5)
    · rintro H2 ⟨e2, s2⟩
      repeat walk_at "rd"
      refine r_all (.inl (.inl e2)) ?_
      rw [show (List.replicate m.toNat true).all id = true from by rw [List.all_replicate]; simp]
      exact k _

end
end K76
open PySem PySem.W PySem.Calls PyProof.Rows
set_option maxRecDepth 100000 in
set_option maxHeartbeats 0 in
theorem PySem.Challenge.cw_leastlog_k76_disks_holds : PySem.Challenge.rw_leastlog_k76_disks.Holds := by
  w_on; o_law
  refine LL.head_imp (r := OpenLaw.row PySem.Challenge.rw_leastlog_k76_disks) (q := view (OpenLaw.row PySem.Challenge.rw_leastlog_k76_disks).prog [21]) (H := K76.hk) (ob := K76.ob) (N := 6000) (M := 6000) (loose := K76.loose)
    (d := HandSHeadRun.topDef (OpenLaw.row PySem.Challenge.rw_leastlog_k76_disks).prog 21) (kwd := []) K76.ob_eq (by decide +kernel) K76.run
    (by kernel_rfl) (by kernel_rfl) (by kernel_rfl) (by rfl) (by first | assumption | decide +kernel) (by decide +kernel) ⟨rfl, rfl, rfl, rfl, rfl, by decide +kernel⟩ ?hw ?hc
  case hw => w_witness2
  case hc =>
    refine LL.walk_gT (g := true) (l := PySem.Challenge.rw_leastlog_k76_disks) (n := 63) (k := 11) (x := "_law_script") (CX := fun _ => L2.CX0) rfl (by decide) (by kernel_rfl) ⟨rfl, by decide, by decide⟩ ?F (fun _ _ _ _ _ z => z)
    intro w mg fa h Y XX G hmg0
    obtain ⟨K, KX, c, x, tt⟩ := Y
    have hmg : mg ("law" : PySem.Str) = some (.ref fa) := by
      have e : (HandSHeadRun.topDef (OpenLaw.row PySem.Challenge.rw_leastlog_k76_disks).prog 21).name = ("law" : PySem.Str) := by kernel_rfl
      rw [← e]
      exact hmg0
    obtain ⟨T, _⟩ := K76.tx_of KX G XX c x tt
    have e := hmg.symm.trans T.g_law
    cases e
    exact ⟨K, T.fd_law, K76.sp_law K, LL.tabsIn K K76.ftabs, KX, LL.tabs_ok tt, fun s v => L2.FunD.bindsA (ps := ["_law_script"]) T.F_law (fun _ _ _ _ _ _ us hl => match us, hl with | [_], _ => rfl) s [v] rfl, fun H a ns hl hT hS => ⟨a, ns, rfl, hS, hl, LL.tabs_start hT, fun _ => rfl⟩, fun base _ _ TB => K76.ok_law T TB⟩
